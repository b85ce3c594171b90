package scan

import (
	"bytes"
	"cmp"
	"math/rand"
	"slices"
	"strings"
	"testing"

	"leakresponse/api"
	"leakresponse/library"
	"leakresponse/pattern"
)

func kinds(t *testing.T, text string) []api.Kind {
	l, e := library.Parse(text)
	if e != api.OK {
		t.Fatal(text, e)
	}
	return l
}

// slow follows the chapter place by place.
func slow(k api.Kind, b []byte) []api.Run {
	var out []api.Run
	for from := 0; from < len(b); {
		to := len(b)
		for to > from && !(pattern.Belongs(k.Pattern, b[from:to]) && library.Clear(k, b, from, to)) {
			to--
		}
		if end, ok := Choice(k, b, from); ok != (to > from) || ok && end != to || !ok && end != 0 {
			return []api.Run{{From: -from, To: end}}
		}
		if to == from {
			from++
			continue
		}
		out = append(out, api.Run{From: from, To: to})
		from = to
	}
	return out
}

var libraries = []string{
	"a a{1,2}\nb [a-b]{2,3} whole\n", "x (ab|c){2} entropy 65536\ny a[a-c]{0,3}1 check 1\nz [0-9]{2,4} whole check 1\n",
	"w c{1,4} near 3 word 61 word 6262\nv [a-c]{3}|a whole near 1 word 2d\n", "l [\\x2d-a]{1,5} entropy 70000 near 2 word 31\nletter [a-c]{2}[A-Z] check 4\n",
}

// P8.1 and P8.2
func TestAgainstSlow(t *testing.T) {
	r := rand.New(rand.NewSource(1))
	for _, text := range libraries {
		l := kinds(t, text)
		for range 150 {
			b := make([]byte, r.Intn(30))
			for i := range b {
				b[i] = "aabbcc-1108X"[r.Intn(12)]
			}
			var all []api.Match
			for n, k := range l {
				want := slow(k, b)
				got, e := Choices(k, b)
				if e != api.OK || !slices.Equal(got, want) {
					t.Fatalf("%s: %q: %v, %v", text, b, got, want)
				}
				var matches []api.Match
				for _, c := range want {
					if library.Passes(k, b, c.From, c.To) {
						matches = append(matches, api.Match{Kind: n, From: c.From, To: c.To})
					}
				}
				if m, e := Kind(l, n, b); e != api.OK || !slices.Equal(m, matches) {
					t.Fatalf("%s: %q: %v, %v", text, b, m, matches)
				}
				all = append(all, matches...)
			}
			slices.SortFunc(all, func(x, y api.Match) int {
				return cmp.Or(x.From-y.From, x.To-y.To, x.Kind-y.Kind)
			})
			if m, e := All(l, b); e != api.OK || !slices.Equal(m, all) {
				t.Fatalf("%s: %q: %v, %v", text, b, m, all)
			}
		}
	}
}

// P8.1
func TestChoices(t *testing.T) {
	k := kinds(t, "k a{1,2}\n")[0]
	got, e := Choices(k, []byte("aaa"))
	if e != api.OK || !slices.Equal(got, []api.Run{{From: 0, To: 2}, {From: 2, To: 3}}) {
		t.Error(got, e)
	}
	for _, from := range []int{-1, 3, 4, 1 << 40} {
		if to, ok := Choice(k, []byte("aaa"), from); to != 0 || ok {
			t.Error(from)
		}
	}
	if to, ok := Choice(api.Kind{}, []byte("a"), 0); to != 0 || ok {
		t.Error("not valid")
	}
	long := bytes.Repeat([]byte("a"), api.MaxBytes+1)
	if _, e := Choices(api.Kind{}, long); e != api.ErrSyntax {
		t.Error(e)
	}
	if _, e := Choices(k, long); e != api.ErrLimit {
		t.Error(e)
	}
	if got, e := Choices(k, long[1:]); e != api.OK || len(got) != api.MaxBytes/2 {
		t.Error(e)
	}
}

// P8.2
func TestErrors(t *testing.T) {
	l := kinds(t, "k a{1,2}\n")
	long := bytes.Repeat([]byte("a"), api.MaxBytes+1)
	for _, n := range []int{-1, 1} {
		if _, e := Kind(l, n, long); e != api.ErrRange {
			t.Error(e)
		}
		if _, e := Kind(nil, n, long); e != api.ErrLimit {
			t.Error(e)
		}
	}
	bad := []api.Kind{l[0], l[0]}
	_, e := Kind(bad, 7, long)
	_, f := All(bad, long)
	if e != api.ErrExists || f != api.ErrExists {
		t.Error(e, f)
	}
	_, e = Kind(l, 0, long)
	_, f = All(l, long)
	if e != api.ErrLimit || f != api.ErrLimit {
		t.Error(e, f)
	}
	if m, e := Kind(l, 0, long[1:]); len(m) != api.MaxBytes/2 || e != api.OK {
		t.Error(e)
	}
	if m, e := All(l, nil); len(m) != 0 || e != api.OK {
		t.Error(m, e)
	}
}

// P8.1: a choice that does not pass hides shorter parts that would pass.
func TestHides(t *testing.T) {
	l := kinds(t, "k [0-9]{2,3} check 1\n")
	if m, _ := All(l, []byte("181")); len(m) != 0 {
		t.Error(m)
	}
	if m, _ := All(l, []byte("18 ")); len(m) != 1 {
		t.Error(m)
	}
}

// A long text with many places at which a pattern begins.
func TestLong(t *testing.T) {
	l := kinds(t, "k ([a-z]{51}){5}1\nm ([a-z]{1,64}){4} whole\n")
	b := []byte(strings.Repeat("a", api.MaxBytes-1) + "1")
	m, e := All(l, b)
	if e != api.OK || !slices.Equal(m, []api.Match{{Kind: 0, From: api.MaxBytes - 256, To: api.MaxBytes}}) {
		t.Error(m, e)
	}
}

// P8.2
func TestCovers(t *testing.T) {
	l := []api.Match{{From: 3, To: 5}, {From: 0, To: 4}, {From: 4, To: 4}, {From: 4, To: 6}}
	for at, want := range map[int][]int{-1: nil, 0: {1}, 3: {0, 1}, 4: {0, 3}, 5: {3}, 6: nil} {
		if got := Covers(l, at); !slices.Equal(got, want) {
			t.Error(at, got)
		}
	}
}
