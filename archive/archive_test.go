package archive

import (
	"bytes"
	"math/rand"
	"slices"
	"strconv"
	"strings"
	"testing"

	"leakresponse/api"
)

func entry1(name, data string) api.Entry { return api.Entry{Name: name, Data: []byte(data)} }

func same(a, b []api.Entry) bool {
	return slices.EqualFunc(a, b, func(x, y api.Entry) bool { return x.Name == y.Name && bytes.Equal(x.Data, y.Data) })
}

func format(t *testing.T, l ...api.Entry) []byte {
	b, e := Format(l)
	if e != api.OK {
		t.Fatal(e)
	}
	return b
}

// P11.1
func TestValid(t *testing.T) {
	var many []api.Entry
	for i := range 65 {
		many = append(many, entry1("n"+strconv.Itoa(i), ""))
	}
	half := strings.Repeat("x", api.MaxBytes/2)
	for i, c := range []struct {
		l []api.Entry
		e api.Errno
	}{
		{nil, 0}, {many[:64], 0}, {many, api.ErrLimit}, {[]api.Entry{entry1("a", half), entry1("b", half)}, 0}, {[]api.Entry{entry1("a", half), entry1("a", half+"x")}, api.ErrLimit},
		{[]api.Entry{entry1("", "")}, api.ErrInvalid}, {[]api.Entry{entry1("a!b", "")}, api.ErrInvalid}, {[]api.Entry{entry1("a b", "")}, api.ErrInvalid}, {[]api.Entry{entry1("\x7f", "")}, api.ErrInvalid}, {[]api.Entry{entry1(strings.Repeat("~", 40), "")}, 0}, {[]api.Entry{entry1(strings.Repeat("~", 41), "")}, api.ErrInvalid},
		{[]api.Entry{entry1("a", "1"), entry1("a", "2")}, api.ErrExists}, {[]api.Entry{entry1("a", "1"), entry1("a", "2"), entry1("", "")}, api.ErrInvalid}, {append(slices.Clone(many), entry1("", "")), api.ErrLimit},
	} {
		if e := Valid(c.l); e != c.e {
			t.Error(i, e)
		}
		if b, e := Format(c.l); e != c.e || e != 0 && len(b) > 0 {
			t.Error(i, e)
		}
	}
}

// P11.2
func TestFormat(t *testing.T) {
	for data, want := range map[string]string{
		"":                                      "\x00",
		"ab":                                    "\x00ab",
		"aaa":                                   "\x01\x80a",
		"aa":                                    "\x00aa",
		"xaaa":                                  "\x00xaaa",
		"xaaaa":                                 "\x01\x00x\x81a",
		strings.Repeat("x", 10):                 "\x01\x87x",
		strings.Repeat("x", 130):                "\x01\xffx",
		strings.Repeat("x", 131):                "\x01\xffx\x00x",
		strings.Repeat("x", 132) + "yz":         "\x01\xffx\x03xxyz",
		strings.Repeat("x", 133) + "y":          "\x01\xffx\x80x\x00y",
		strings.Repeat("ab", 65) + "cccccccccc": "\x01\x7f" + strings.Repeat("ab", 64) + "\x01ab\x87c",
		strings.Repeat("x", 131) + "yyyyyy":     "\x01\xffx\x00x\x83y",
		"ddeeffff" + "g" + strings.Repeat("\x00", 260): "\x01\x03ddee\x81f\x00g\xff\x00\xff\x00",
	} {
		n := len(data)
		head := "ARC1\x01\x02na" + string([]byte{byte(n >> 16), byte(n >> 8), byte(n)})
		if got := format(t, entry1("na", data)); string(got) != head+want {
			t.Errorf("%q: %q", data, got)
		}
	}
	if got := format(t); string(got) != "ARC1\x00" {
		t.Errorf("%q", got)
	}
	r := rand.New(rand.NewSource(1))
	for range 300 {
		var l []api.Entry
		total := 5
		for i := range r.Intn(5) {
			data := ""
			for len(data) < 300 && r.Intn(20) > 0 {
				data += strings.Repeat(string("abc"[r.Intn(3)]), 1+r.Intn(3)*r.Intn(80))
			}
			l = append(l, entry1("e"+strconv.Itoa(i), data))
			total += 1 + 2 + 4 + len(data)
		}
		b := format(t, l...)
		got, e := Parse(b)
		if e != api.OK || !same(got, l) || !Is(b) || len(b) > total || Size(b) != size(l) {
			t.Fatal(l, e)
		}
		for i := range b {
			if _, e := Parse(b[:i]); e != api.ErrPack || Is(b[:i]) || Size(b[:i]) != 0 {
				t.Fatal(l, i)
			}
		}
		if Is(append(b, 0)) {
			t.Fatal("a byte more")
		}
	}
}

// P11.2
func TestParse(t *testing.T) {
	for s, want := range map[string]string{
		"ARC1\x01\x01a\x00\x00\x03\x01\x00x\x00y\x00z": "xyz", "ARC1\x01\x01a\x00\x00\x04\x01\x80x\x00x": "xxxx", "ARC1\x01\x01a\x00\x00\x00\x01": "", "ARC1\x01\x01a\x00\x00\x03\x00xxx": "xxx",
	} {
		b := []byte(s)
		l, e := Parse(b)
		if e != api.OK || !same(l, []api.Entry{entry1("a", want)}) || Size(b) != len(want) {
			t.Errorf("%q: %v, %d", s, l, e)
		}
		clear(b)
		if !same(l, []api.Entry{entry1("a", want)}) {
			t.Error("shared memory")
		}
	}
	for _, s := range []string{"", "ARC1", "ARC2\x00", "arc1\x00", "ARC1\x00\x00", "ARC1\x01", "ARC1\x01\x01a\x00\x00\x01\x02x", "ARC1\x01\x01a\x00\x00\x03\x01\x81x", "ARC1\x01\x01a\x00\x00\x03\x01\x80", "ARC1\x01\x01a\x00\x00\x02\x01\x02x",
		"ARC1\x01\x00\x00\x00\x00\x00", "ARC1\x01\x01!\x00\x00\x00\x00", "ARC1\x02\x01a\x00\x00\x00\x00\x01a\x00\x00\x00\x00", "ARC1\x01\x01a\x01\x00\x01\x00" + strings.Repeat("x", 65537), "ARC1\x41" + strings.Repeat("\x01a\x00\x00\x00\x00", 65)} {
		if l, e := Parse([]byte(s)); e != api.ErrPack || len(l) > 0 || Is([]byte(s)) || Size([]byte(s)) != 0 {
			t.Errorf("%.30q: %d", s, e)
		}
	}
	// In pieces of one byte an archive may have more bytes than Parse takes: it is one all the same.
	long := []byte("ARC1\x01\x01a\x01\x00\x00\x01" + strings.Repeat("\x00x", api.MaxBytes))
	if _, e := Parse(long); e != api.ErrLimit || !Is(long) || Size(long) != api.MaxBytes {
		t.Error(e)
	}
	if _, e := Walk(long); e != api.ErrLimit {
		t.Error(e)
	}
	if _, e := Parse(make([]byte, 2*api.MaxBytes)); e != api.ErrPack {
		t.Error(e)
	}
}

// P11.3
func TestWalk(t *testing.T) {
	inner := format(t, entry1("x", "1"), entry1("y", ""))
	for range 3 {
		inner = format(t, entry1("in", string(inner)), entry1("z", "2"))
	}
	b := format(t, entry1("a", "text"), entry1("b", string(inner)), entry1("c", "ARC1\x00"))
	l, e := Walk(b)
	if e != api.OK {
		t.Fatal(e)
	}
	var names []string
	for _, x := range l {
		names = append(names, x.Name)
	}
	if !slices.Equal(names, []string{"a", "b", "b!in", "b!in!in", "b!in!z", "b!z", "c"}) || string(l[4].Data) != "2" {
		t.Error(names)
	}
	if l, e := Walk([]byte("no archive")); e != api.ErrPack || len(l) > 0 {
		t.Error(e)
	}
	// Data of all entries together: the archive in it counts, too.
	for n := 32760; n < 32766; n++ {
		r := rand.New(rand.NewSource(2))
		data := make([]byte, n)
		r.Read(data)
		in := format(t, api.Entry{Name: "x", Data: data})
		_, e := Walk(format(t, entry1("x", "1"), api.Entry{Name: "in", Data: in}))
		if (e == api.OK) != (len(in)+n+1 <= api.MaxBytes) || e != api.OK && e != api.ErrLimit {
			t.Error(n, len(in), e)
		}
	}
	// Archives of empty entries in an archive: MaxPlaces entries, and one more.
	full := func(n int) string {
		var l []api.Entry
		for i := range n {
			l = append(l, entry1(strconv.Itoa(i), ""))
		}
		return string(format(t, l...))
	}
	for last, want := range map[int]api.Errno{49: api.OK, 50: api.ErrLimit} {
		l := []api.Entry{entry1("last", full(last))}
		for i := range 30 {
			l = append(l, entry1("f"+strconv.Itoa(i), full(64)))
		}
		if got, e := Walk(format(t, l...)); e != want || e == api.OK && len(got) != api.MaxPlaces {
			t.Error(last, e, len(got))
		}
	}
}
