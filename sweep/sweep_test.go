package sweep

import (
	"slices"
	"strconv"
	"strings"
	"testing"

	"leakresponse/api"
	"leakresponse/archive"
	"leakresponse/decode"
	"leakresponse/library"
)

func same(a, b []api.Content) bool {
	return slices.EqualFunc(a, b, func(x, y api.Content) bool {
		return string(x.Data) == string(y.Data) && slices.Equal(x.Places, y.Places)
	})
}

func file(name, s string) api.Source {
	return api.Source{Name: name, Kind: api.SourceFile, Bytes: []byte(s)}
}

func zip(name string, l ...api.Entry) api.Source {
	b, e := archive.Format(l)
	if e != api.OK {
		panic(e)
	}
	return api.Source{Name: name, Kind: api.SourceArchive, Bytes: b}
}

func entry(name, s string) api.Entry { return api.Entry{Name: name, Data: []byte(s)} }

var chat = api.Source{Name: "chat", Kind: api.SourceExport, Bytes: []byte("post 7 5 ann two\nedit 7 6 ann one\nedit 7 8 ann two\n")}

// P19.1
func TestGather(t *testing.T) {
	z := zip("zip", entry("a", "one"), entry("b", "three"), entry("c", "one"))
	l := []api.Source{file("f", "one"), chat, z, file("g", "two")}
	place := func(source int, path string, t int) api.Place {
		return api.Place{Source: source, Path: path, Time: t}
	}
	want := []api.Content{
		{Data: []byte("one"), Places: []api.Place{place(0, "", 0), place(1, "7", 6), place(2, "a", 0), place(2, "c", 0)}},
		{Data: []byte("two"), Places: []api.Place{place(1, "7", 5), place(1, "7", 8), place(3, "", 0)}},
		{Data: z.Bytes, Places: []api.Place{place(2, "", 0)}},
		{Data: []byte("three"), Places: []api.Place{place(2, "b", 0)}},
	}
	got, e := Gather(l)
	if e != api.OK || !same(got, want) {
		t.Error(got, e)
	}
	if before, after, e := Count(l); before != 9 || after != 4 || e != api.OK {
		t.Error(before, after, e)
	}
	for _, c := range got {
		clear(c.Data)
		clear(c.Places)
	}
	if again, _ := Gather(l); !same(again, want) {
		t.Error("shared memory")
	}
	if l, e := Gather(nil); e != api.OK || len(l) > 0 {
		t.Error(l, e)
	}
}

// P19.1: errors.
func TestErrors(t *testing.T) {
	files := func(n int) []api.Source {
		var l []api.Source
		for i := range n {
			l = append(l, file("f"+strconv.Itoa(i), ""))
		}
		return l
	}
	var entries []api.Entry
	for i := range 63 {
		entries = append(entries, entry("e"+strconv.Itoa(i), ""))
	}
	// full has 31 times 64 places, and those of one more archive.
	full := func(more int) []api.Source {
		l := []api.Source{zip("last", entries[:more]...)}
		for i := range 31 {
			l = append(l, zip("z"+strconv.Itoa(i), entries...))
		}
		return l
	}
	inner, outer := "tree\n", "tree\n"
	for i := range 60 {
		inner += "1 n" + strconv.Itoa(100+i) + "\n"
		outer += "2 n" + strconv.Itoa(100+i) + "\n"
	}
	plain := func(id int, s string) api.Packed { return api.Packed{ID: id, Data: []byte(s)} }
	wide := api.Source{Name: "wide", Kind: api.SourceRepository, Pack: []api.Packed{plain(1, "blob\n"), plain(2, inner), plain(3, outer), plain(4, "commit\ntree 3\nauthor x\ntime 0\n")}, Refs: []api.RefEvent{{Kind: api.RefSet, Name: "a", Commit: 4}}}
	for i, c := range []struct {
		l []api.Source
		e api.Errno
	}{
		{files(32), 0}, {files(33), api.ErrLimit}, {append(files(33), file("A", "")), api.ErrLimit}, {[]api.Source{file("a", ""), file("a", ""), file("A", "")}, api.ErrSyntax}, {[]api.Source{{Name: "a"}, file("A", "")}, api.ErrInvalid},
		{[]api.Source{file("a", ""), file("a", ""), wide}, api.ErrExists}, {[]api.Source{wide}, api.ErrLimit}, {full(15), 0}, {full(16), api.ErrLimit},
	} {
		l, e := Gather(c.l)
		before, after, f := Count(c.l)
		if e != c.e || f != c.e || e != api.OK && len(l)+before+after > 0 {
			t.Error(i, e, f)
		}
	}
}

// P19.2
func TestScan(t *testing.T) {
	kinds, e := library.Parse("a [a-z]{3}[0-9]\n")
	if e != api.OK {
		t.Fatal(e)
	}
	content := func(s string) api.Content { return api.Content{Data: []byte(s)} }
	l := []api.Content{content("abc1 abc2"), content(""), content("61626331")}
	got, e := Scan(kinds, l)
	if e != api.OK || len(got) != 3 {
		t.Fatal(e)
	}
	for i, c := range l {
		want, _ := decode.Scan(kinds, c.Data)
		if !slices.EqualFunc(got[i], want, func(x, y api.Hit) bool { return slices.Equal(x.Layers, y.Layers) && x.Match == y.Match }) {
			t.Error(i, got[i])
		}
	}
	long := content(strings.Repeat("x", api.MaxBytes+1))
	if _, e := Scan(nil, []api.Content{long}); e != api.ErrLimit {
		t.Error(e)
	}
	if _, e := Scan([]api.Kind{{}}, []api.Content{long}); e != api.ErrSyntax {
		t.Error(e)
	}
	if _, e := Scan([]api.Kind{{}}, nil); e != api.ErrSyntax {
		t.Error(e)
	}
	if l, e := Scan(kinds, []api.Content{content("abc1"), long}); e != api.ErrLimit || len(l) > 0 {
		t.Error(e)
	}
	many := func(n int) []api.Content {
		return []api.Content{content(strings.Repeat("abc1 ", n/2)), content(strings.Repeat("abc1 ", n-n/2))}
	}
	if l, e := Scan(kinds, many(4000)); e != api.OK || len(l[0])+len(l[1]) != 4000 {
		t.Error(e)
	}
	if l, e := Scan(kinds, many(4001)); e != api.ErrLimit || len(l) > 0 {
		t.Error(e)
	}
}

// P19.2
func TestFind(t *testing.T) {
	l := []api.Content{{Data: []byte("a")}, {}, {Data: []byte("b")}, {Data: []byte("a")}}
	for s, want := range map[string]int{"a": 0, "b": 2, "": 1, "c": -1} {
		if got := Find(l, []byte(s)); got != want {
			t.Error(s, got)
		}
	}
	if Find(nil, nil) != -1 {
		t.Error("nothing")
	}
}
