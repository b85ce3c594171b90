package source

import (
	"slices"
	"strconv"
	"strings"
	"testing"

	"leakresponse/api"
	"leakresponse/archive"
	"leakresponse/object"
	"leakresponse/pack"
)

func plain(id int, s string) api.Packed { return api.Packed{ID: id, Data: []byte(s)} }

func same(a, b []api.Content) bool {
	return slices.EqualFunc(a, b, func(x, y api.Content) bool {
		return string(x.Data) == string(y.Data) && slices.Equal(x.Places, y.Places)
	})
}

func content(s string, places ...api.Place) api.Content {
	return api.Content{Data: []byte(s), Places: places}
}

func zip(l ...api.Entry) []byte {
	b, e := archive.Format(l)
	if e != api.OK {
		panic(e)
	}
	return b
}

var (
	entries = []api.Packed{plain(3, "blob\nabc"), {ID: 4, Delta: true, Base: 3, Ops: []api.Op{{Size: 7}}}, plain(1, "tree\n3 a\n4 b\n"), plain(2, "commit\ntree 1\nauthor x\ntime 0\n"), plain(9, "tree\n4 c\n"), plain(8, "commit\ntree 9\nauthor x\ntime 0\n")}
	refs    = []api.RefEvent{{Kind: api.RefSet, Name: "main", Commit: 2, Time: 5}, {Kind: api.RefSet, Name: "main", Commit: 8, Time: 7}}
	repo    = api.Source{Name: "repo-1", Kind: api.SourceRepository, Pack: entries, Refs: refs}
	zipped  = api.Source{Name: "zip", Kind: api.SourceArchive, Bytes: zip(api.Entry{Name: "a", Data: []byte("text")}, api.Entry{Name: "in", Data: zip(api.Entry{Name: "x"})})}
	chat    = api.Source{Name: "chat", Kind: api.SourceExport, Bytes: []byte("post 7 5 ann a\\nb\nedit 7 6 ann bye\ndelete 7 7 ann\n")}
	file    = api.Source{Name: "file", Kind: api.SourceFile, Bytes: []byte("bytes")}
)

func with(s api.Source, change func(s *api.Source)) api.Source {
	change(&s)
	return s
}

// P18.1
func TestValid(t *testing.T) {
	bytes := func(n int) func(s *api.Source) {
		return func(s *api.Source) { s.Bytes = make([]byte, n) }
	}
	deep := zip(api.Entry{Name: "a", Data: zip(api.Entry{Name: "b", Data: make([]byte, 40000)}, api.Entry{Name: "c", Data: make([]byte, 25000)})}, api.Entry{Name: "d", Data: make([]byte, 536)})
	for i, c := range []struct {
		s api.Source
		e api.Errno
	}{
		{repo, 0}, {zipped, 0}, {chat, 0}, {file, 0}, {api.Source{Name: "r", Kind: api.SourceRepository}, 0}, {api.Source{Name: "e", Kind: api.SourceExport}, 0}, {api.Source{Name: "f", Kind: api.SourceFile}, 0},
		{with(repo, func(s *api.Source) { s.Name = "" }), api.ErrSyntax}, {with(repo, func(s *api.Source) { s.Name = "A"; s.Kind = 9 }), api.ErrSyntax}, {with(repo, func(s *api.Source) { s.Name = strings.Repeat("a", 41) }), api.ErrSyntax},
		{with(file, func(s *api.Source) { s.Kind = 0 }), api.ErrInvalid}, {with(file, func(s *api.Source) { s.Kind = 5 }), api.ErrInvalid}, {with(repo, bytes(1)), api.ErrInvalid}, {with(file, func(s *api.Source) { s.Refs = refs }), api.ErrInvalid}, {with(chat, func(s *api.Source) { s.Pack = entries }), api.ErrInvalid}, {with(zipped, func(s *api.Source) { s.Refs = refs[:1] }), api.ErrInvalid},
		{with(repo, func(s *api.Source) { s.Pack = entries[1:]; s.Refs = nil }), api.ErrMissing}, {with(repo, func(s *api.Source) { s.Pack = []api.Packed{plain(1, "x")}; s.Refs = make([]api.RefEvent, 400) }), api.ErrPack}, {with(repo, func(s *api.Source) { s.Refs = slices.Repeat(refs, 2) }), api.ErrOrder}, {with(repo, func(s *api.Source) { s.Pack = []api.Packed{plain(1, "tree\n1 a\n")}; s.Refs = nil }), api.ErrCycle},
		{with(zipped, bytes(5)), api.ErrPack}, {with(zipped, bytes(2*api.MaxBytes+1)), api.ErrLimit}, {with(zipped, func(s *api.Source) { s.Bytes = deep }), api.ErrLimit},
		{with(chat, bytes(5)), api.ErrPack}, {with(chat, bytes(8*api.MaxBytes+1)), api.ErrLimit}, {with(file, bytes(api.MaxBytes)), 0}, {with(file, bytes(api.MaxBytes+1)), api.ErrLimit},
	} {
		if e := Valid(c.s); e != c.e {
			t.Error(i, e, c.e)
		}
		l, e := Contents(c.s, 99)
		if c.e == api.OK {
			c.e = api.ErrRange
		}
		if e != c.e || len(l) > 0 {
			t.Error(i, e)
		}
		if r, e := Repository(c.s); c.e != api.ErrRange && (e != c.e || len(r.Objects)+len(r.Events) > 0) {
			t.Error(i, e)
		}
	}
}

// P18.1
func TestRepository(t *testing.T) {
	r, e := Repository(repo)
	want, _ := pack.Resolve(entries)
	if e != api.OK || !slices.EqualFunc(r.Objects, want, object.Same) || !slices.Equal(r.Events, refs) {
		t.Error(r, e)
	}
	r.Events[0].Time = 99
	if refs[0].Time != 5 {
		t.Error("shared memory")
	}
	for _, s := range []api.Source{zipped, chat, file} {
		if r, e := Repository(s); e != api.ErrInvalid || len(r.Objects) > 0 {
			t.Error(s.Name, e)
		}
	}
}

// P18.2
func TestContents(t *testing.T) {
	place := func(path string, t int) api.Place { return api.Place{Source: 31, Path: path, Time: t} }
	for i, c := range []struct {
		s    api.Source
		want []api.Content
	}{
		{repo, []api.Content{content("abc", place("2:a", 5)), content("ab", place("2:b", 5), place("8:c", 7))}},
		{zipped, []api.Content{content(string(zipped.Bytes), place("", 0)), content("text", place("a", 0)), content(string(zip(api.Entry{Name: "x"})), place("in", 0)), content("", place("in!x", 0))}},
		{chat, []api.Content{content("a\nb", place("7", 5)), content("bye", place("7", 6))}},
		{file, []api.Content{content("bytes", place("", 0))}},
	} {
		got, e := Contents(c.s, 31)
		if e != api.OK || !same(got, c.want) {
			t.Error(i, got, e)
		}
		size := 0
		for _, x := range c.want {
			size += len(x.Data)
		}
		if Size(got) != size {
			t.Error(i, Size(got))
		}
		for _, x := range got {
			clear(x.Data)
		}
		if again, _ := Contents(c.s, 31); !same(again, c.want) {
			t.Error(i, "shared memory")
		}
	}
	for _, n := range []int{-1, 32} {
		if _, e := Contents(file, n); e != api.ErrRange {
			t.Error(n, e)
		}
	}
	if _, e := Contents(file, 0); e != api.OK {
		t.Error(e)
	}
}

// P18.2: an archive of more than MaxBytes bytes has no content of its own, and a repository may have too many places.
func TestBounds(t *testing.T) {
	long := []byte("ARC1\x01\x01a\x01\x00\x00\x00" + strings.Repeat("x", api.MaxBytes))
	l, e := Contents(api.Source{Name: "a", Kind: api.SourceArchive, Bytes: long}, 0)
	if e != api.OK || len(l) != 1 || l[0].Places[0].Path != "a" || len(l[0].Data) != api.MaxBytes {
		t.Error(e, len(l))
	}
	for n, want := range map[int]int{api.MaxBytes - 11: 2, api.MaxBytes - 10: 1} {
		b := append([]byte("ARC1\x01\x01a\x00"), byte(n>>8), byte(n), 0)
		b = append(b, strings.Repeat("x", n)...)
		if l, e := Contents(api.Source{Name: "a", Kind: api.SourceArchive, Bytes: b}, 0); e != api.OK || len(l) != want {
			t.Error(n, e, len(l))
		}
	}
	inner, outer := "tree\n", "tree\n"
	for i := range 60 {
		inner += "1 n" + strconv.Itoa(100+i) + "\n"
		outer += "2 n" + strconv.Itoa(100+i) + "\n"
	}
	s := api.Source{Name: "a", Kind: api.SourceRepository, Pack: []api.Packed{plain(1, "blob\n"), plain(2, inner), plain(3, outer), plain(4, "commit\ntree 3\nauthor x\ntime 0\n")}, Refs: []api.RefEvent{{Kind: api.RefSet, Name: "a", Commit: 4}}}
	if Valid(s) != api.OK {
		t.Fatal(Valid(s))
	}
	if l, e := Contents(s, 0); e != api.ErrLimit || len(l) > 0 {
		t.Error(e)
	}
}
