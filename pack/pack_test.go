package pack

import (
	"math/rand"
	"slices"
	"strings"
	"testing"

	"leakresponse/api"
	"leakresponse/object"
)

func plain(id int, s string) api.Packed { return api.Packed{ID: id, Data: []byte(s)} }

func on(id, base int, ops ...api.Op) api.Packed {
	return api.Packed{ID: id, Delta: true, Base: base, Ops: ops}
}

func insert(s string) api.Op    { return api.Op{Data: []byte(s)} }
func cut(from, size int) api.Op { return api.Op{From: from, Size: size} }

// row is a plain blob 1 and n deltas behind each other, each with one more letter.
func row(n int) []api.Packed {
	l := []api.Packed{plain(1, "blob\n")}
	for i := range n {
		l = append(l, on(i+2, i+1, cut(0, 5+i), insert("x")))
	}
	return l
}

// P14.1
func TestResolve(t *testing.T) {
	long := strings.Repeat("x", api.MaxBytes)
	many := func(n int) []api.Packed {
		var l []api.Packed
		for i := range n {
			l = append(l, plain(i+1, "blob\n"))
		}
		return l
	}
	for i, c := range []struct {
		l []api.Packed
		e api.Errno
	}{
		{nil, 0}, {many(400), 0}, {many(401), api.ErrLimit}, {[]api.Packed{plain(0, "blob\n")}, api.ErrInvalid}, {[]api.Packed{plain(1<<30+1, "blob\n")}, api.ErrInvalid}, {[]api.Packed{plain(1<<30, "blob\n")}, 0},
		{[]api.Packed{{ID: 1, Base: 2}}, api.ErrInvalid}, {[]api.Packed{{ID: 1, Ops: []api.Op{cut(0, 1)}}}, api.ErrInvalid}, {[]api.Packed{{ID: 1, Delta: true, Data: []byte("x")}}, api.ErrInvalid},
		{[]api.Packed{plain(1, "x"), plain(1, "x"), on(2, 9)}, api.ErrExists}, {[]api.Packed{on(1, 2, cut(9, 9)), on(3, 3)}, api.ErrMissing}, {[]api.Packed{on(1, 0)}, api.ErrMissing},
		{[]api.Packed{on(1, 1)}, api.ErrCycle}, {append(row(21), on(50, 51), on(51, 52), on(52, 50)), api.ErrCycle}, {append(row(21), plain(99, "no")), api.ErrDepth}, {row(20), 0},
		{[]api.Packed{plain(9, "no"), plain(1, "blob\n"), on(2, 1, cut(0, 6))}, api.ErrRange}, {[]api.Packed{plain(1, "blob\n"+long), on(2, 1, cut(0, 5))}, api.ErrRange}, {[]api.Packed{plain(1, "blob\n"+long)}, 0}, {[]api.Packed{plain(1, "blob\n"+long+"x")}, api.ErrPack},
		{[]api.Packed{plain(1, "blob"), on(2, 1, cut(0, 4), insert("\n"))}, api.ErrPack}, {[]api.Packed{plain(1, "blob\n"), on(2, 1)}, api.ErrPack}, {append(many(399), on(500, 400)), api.ErrMissing},
	} {
		if l, e := Resolve(c.l); e != c.e || e != 0 && len(l) > 0 {
			t.Error(i, e, c.e)
		}
	}
	l := []api.Packed{on(3, 2, cut(0, 6), insert("tail")), plain(1, "blob\nabc"), on(2, 1, cut(0, 7))}
	for range 6 {
		got, e := Resolve(l)
		if e != api.OK || len(got) != 3 {
			t.Fatal(e)
		}
		for i, o := range got {
			want := map[int]string{1: "abc", 2: "ab", 3: "atail"}[l[i].ID]
			if o.ID != l[i].ID || o.Kind != api.ObjectBlob || string(o.Data) != want {
				t.Error(o)
			}
		}
		l = append(l[1:], l[0])
		if len(l) > 1 {
			l[0], l[1] = l[1], l[0]
		}
	}
}

// P14.2
func TestChain(t *testing.T) {
	l := append(row(30), on(100, 100), on(101, 102), on(102, 101), on(103, 999), on(104, 9, cut(0, 99)), on(105, 104, insert("x")), plain(200, "a"), plain(200, "b"), on(201, 200), plain(-7, "seven"), on(-8, -7, cut(0, 2)), api.Packed{ID: 300, Base: 1}, on(301, 300), api.Packed{ID: 302, Delta: true, Base: 1, Data: []byte("x")})
	for id, want := range map[int]int{1: 0, 2: 1, 31: 30, 100: -1, 101: -1, 103: -1, 104: 9, 105: 10, 200: -1, 201: -1, 998: -1, 0: -1, -7: 0, -8: 1, 300: -1, 301: -1, 302: -1} {
		if got := Chain(l, id); got != want {
			t.Error(id, got)
		}
		b, ok := Bytes(l, id)
		text := map[int]string{1: "blob\n", 2: "blob\nx", 31: "blob\n" + strings.Repeat("x", 30), -7: "seven", -8: "se"}[id]
		if ok != (text != "") || string(b) != text {
			t.Errorf("%d: %q, %v", id, b, ok)
		}
	}
	if b, ok := Bytes([]api.Packed{plain(1, "")}, 1); !ok || len(b) != 0 {
		t.Error("no bytes")
	}
	x := plain(1, "blob\n")
	b, _ := Bytes([]api.Packed{x}, 1)
	b[0] = 'X'
	if x.Data[0] != 'b' {
		t.Error("shared memory")
	}
	long := make([]api.Packed, 20000)
	for i := range long {
		long[i] = on(i+1, i)
	}
	long = append(long, plain(0, "x"))
	if Chain(long, 20000) != 20000 {
		t.Error("a long chain")
	}
}

// P14.3
func TestMake(t *testing.T) {
	r := rand.New(rand.NewSource(1))
	deltas := 0
	for range 50 {
		var l []api.Object
		text := ""
		for i := range r.Intn(60) {
			text += strings.Repeat(string("abc"[r.Intn(3)]), r.Intn(30))
			o := api.Object{ID: 500 - i, Kind: api.ObjectBlob, Data: []byte(text)}
			if r.Intn(8) == 0 {
				o = api.Object{ID: 500 - i, Kind: api.ObjectTree, Items: []api.Item{{Name: "a", ID: 1 + r.Intn(100)}}}
			}
			l = append(l, o)
		}
		p, e := Make(l)
		if e != api.OK || len(p) != len(l) {
			t.Fatal(e)
		}
		for _, x := range p {
			if x.Delta {
				deltas++
			}
		}
		got, e := Resolve(p)
		if e != api.OK || !slices.EqualFunc(got, l, object.Same) {
			t.Fatal(e)
		}
	}
	if deltas == 0 {
		t.Error("no deltas")
	}
	blob := api.Object{ID: 1, Kind: api.ObjectBlob, Data: make([]byte, api.MaxBytes)}
	other := blob
	other.ID = 2
	if p, e := Make([]api.Object{blob, other}); e != api.OK {
		t.Error(e)
	} else if _, e := Resolve(p); e != api.OK {
		t.Error(e)
	}
	for i, c := range []struct {
		l []api.Object
		e api.Errno
	}{{[]api.Object{blob, blob}, api.ErrExists}, {[]api.Object{blob, blob, {}}, api.ErrRange}, {[]api.Object{{ID: 1}, {}}, api.ErrInvalid}, {make([]api.Object, 401), api.ErrLimit}, {make([]api.Object, 400), api.ErrRange}} {
		if p, e := Make(c.l); e != c.e || len(p) > 0 {
			t.Error(i, e)
		}
	}
}
