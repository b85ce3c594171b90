package delta

import (
	"bytes"
	"math"
	"math/rand"
	"slices"
	"strings"
	"testing"

	"leakresponse/api"
)

func same(a, b []api.Op) bool {
	return slices.EqualFunc(a, b, func(x, y api.Op) bool { return x.From == y.From && x.Size == y.Size && bytes.Equal(x.Data, y.Data) })
}

func insert(s string) api.Op         { return api.Op{Data: []byte(s)} }
func cut(from, size int) api.Op      { return api.Op{From: from, Size: size} }
func times(n int, x api.Op) []api.Op { return slices.Repeat([]api.Op{x}, n) }

// P12.1
func TestCheck(t *testing.T) {
	base := []byte("abc")
	big := make([]byte, api.MaxBytes+1)
	half := strings.Repeat("x", api.MaxBytes/2)
	for i, c := range []struct {
		base []byte
		ops  []api.Op
		want string
		e    api.Errno
	}{
		{base, nil, "", 0}, {base, []api.Op{cut(1, 2), insert("x")}, "bcx", 0}, {base, []api.Op{cut(0, 3), cut(0, 3), cut(2, 1)}, "abcabcc", 0},
		{base, []api.Op{cut(1, 3)}, "", api.ErrRange}, {base, []api.Op{cut(3, 1)}, "", api.ErrRange}, {base, []api.Op{cut(-1, 2)}, "", api.ErrRange}, {base, []api.Op{cut(0, 0)}, "", api.ErrRange}, {base, []api.Op{cut(0, -1)}, "", api.ErrRange},
		{base, []api.Op{{From: 1, Data: []byte("x")}}, "", api.ErrRange}, {base, []api.Op{{Size: 1, Data: []byte("x")}}, "", api.ErrRange}, {base, []api.Op{{Size: -1, Data: []byte("x")}}, "", api.ErrRange}, {nil, []api.Op{cut(0, 1)}, "", api.ErrRange},
		{base, []api.Op{cut(math.MaxInt, 1)}, "", api.ErrRange}, {base, []api.Op{cut(math.MinInt, 1)}, "", api.ErrRange}, {base, []api.Op{cut(0, math.MaxInt)}, "", api.ErrLimit}, {base, []api.Op{cut(1, math.MaxInt), cut(1, math.MaxInt), cut(1, 2)}, "", api.ErrLimit}, {base, []api.Op{cut(0, math.MinInt)}, "", api.ErrRange},
		{base, times(200, cut(0, 1)), strings.Repeat("a", 200), 0}, {base, times(201, cut(0, 1)), "", api.ErrLimit}, {base, times(201, cut(0, 0)), "", api.ErrLimit}, {big, nil, "", api.ErrLimit}, {big[1:], nil, "", 0},
		{base, []api.Op{insert(half), insert(half)}, half + half, 0}, {base, []api.Op{insert(half), insert(half), cut(0, 1)}, "", api.ErrLimit}, {base, []api.Op{cut(-5, -5), insert(half), insert(half), insert("x")}, "", api.ErrLimit},
		{base, []api.Op{{Size: api.MaxBytes, Data: []byte(half)}}, "", api.ErrRange}, {base, []api.Op{{Size: -7, Data: big}}, "", api.ErrLimit}, {base, []api.Op{cut(0, api.MaxBytes+1)}, "", api.ErrLimit},
	} {
		got, e := Apply(c.base, c.ops)
		if f := Check(c.base, c.ops); e != c.e || f != c.e || string(got) != c.want {
			t.Error(i, e, f)
		}
	}
}

// P12.2
func TestMake(t *testing.T) {
	r := rand.New(rand.NewSource(1))
	text := func() []byte {
		b := make([]byte, r.Intn(8))
		for i := range b {
			b[i] = "ab"[r.Intn(2)]
		}
		return b
	}
	for range 3000 {
		base, target := text(), text()
		ops, e := Make(base, target)
		got, f := Apply(base, ops)
		if e != api.OK || f != api.OK || !bytes.Equal(got, target) || len(ops) > len(target) {
			t.Fatalf("%q, %q: %v", base, target, ops)
		}
		clear(target)
		if again, _ := Apply(base, ops); !bytes.Equal(again, got) {
			t.Fatal("shared memory")
		}
	}
	big := make([]byte, api.MaxBytes+1)
	for _, c := range [][2][]byte{{big, nil}, {nil, big}, {big, big}} {
		if ops, e := Make(c[0], c[1]); e != api.ErrLimit || len(ops) > 0 {
			t.Error(e)
		}
	}
	if ops, e := Make(big[1:], big[1:]); e != api.OK || Check(big[1:], ops) != api.OK {
		t.Error(e)
	}
}

// P12.3
func TestFormat(t *testing.T) {
	long := strings.Repeat("x", api.MaxBytes)
	for i, c := range []struct {
		ops  []api.Op
		want string
		e    api.Errno
	}{
		{nil, "", 0}, {[]api.Op{cut(1, 2), insert("xy")}, "\x01\x00\x00\x01\x00\x00\x02\x00\x00\x00\x02xy", 0}, {[]api.Op{cut(0, 1), insert("x"), cut(5, 1)}, "\x01\x00\x00\x00\x00\x00\x01\x00\x00\x00\x01x\x01\x00\x00\x05\x00\x00\x01", 0}, {[]api.Op{cut(65536, 65536)}, "\x01\x01\x00\x00\x01\x00\x00", 0}, {[]api.Op{insert(long)}, "\x00\x01\x00\x00" + long, 0},
		{[]api.Op{cut(65537, 1)}, "", api.ErrLimit}, {[]api.Op{cut(0, 65537)}, "", api.ErrLimit}, {[]api.Op{insert(long + "x")}, "", api.ErrLimit}, {times(201, cut(0, 1)), "", api.ErrLimit}, {[]api.Op{cut(-1, 1), cut(0, 65537)}, "", api.ErrLimit},
		{[]api.Op{cut(-1, 1)}, "", api.ErrRange}, {[]api.Op{cut(0, -1)}, "", api.ErrRange}, {[]api.Op{{}}, "", api.ErrRange}, {[]api.Op{{From: 1, Data: []byte("x")}}, "", api.ErrRange}, {[]api.Op{{Size: 1, Data: []byte("x")}}, "", api.ErrRange}, {[]api.Op{cut(5, 0)}, "", api.ErrRange},
	} {
		got, e := Format(c.ops)
		if string(got) != c.want || e != c.e {
			t.Error(i, e)
		}
		if e == api.OK {
			again, f := Parse(got)
			if f != api.OK || !same(again, c.ops) {
				t.Error(i, f)
			}
			clear(got)
			if !same(again, c.ops) {
				t.Error(i, "shared memory")
			}
		}
	}
	if b, e := Format(times(200, cut(3, 4))); e != api.OK || len(b) != 1400 {
		t.Error(e)
	}
}

// P12.3
func TestParse(t *testing.T) {
	for _, s := range []string{"\x00", "\x02\x00\x00\x01x", "\x00\x00\x00\x00", "\x00\x00\x00\x02x", "\x01\x00\x00\x00\x00\x00\x00", "\x01\x00\x00\x00\x00\x00", "\x01\x01\x00\x01\x00\x00\x01", "\x01\x00\x00\x00\x01\x00\x01", "\x00\x01\x00\x01" + strings.Repeat("x", 65537), "\x00\x00\x00\x01xy", strings.Repeat("\x00\x00\x00\x01x", 201)} {
		if ops, e := Parse([]byte(s)); e != api.ErrPack || len(ops) > 0 {
			t.Errorf("%.20q: %d", s, e)
		}
	}
	if ops, e := Parse([]byte(strings.Repeat("\x00\x00\x00\x01x", 200))); e != api.OK || len(ops) != 200 {
		t.Error(e)
	}
	if _, e := Parse(make([]byte, 2*api.MaxBytes)); e != api.ErrPack {
		t.Error(e)
	}
	if _, e := Parse(make([]byte, 2*api.MaxBytes+1)); e != api.ErrLimit {
		t.Error(e)
	}
}
