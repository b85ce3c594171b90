package stream

import (
	"bytes"
	"math/rand"
	"slices"
	"strings"
	"testing"

	"leakresponse/api"
	"leakresponse/library"
	"leakresponse/scan"
)

func kinds(t *testing.T, text string) []api.Kind {
	l, e := library.Parse(text)
	if e != api.OK {
		t.Fatal(text, e)
	}
	return l
}

const most = api.MaxMatch + 2*api.MaxNear + 2

func copyOf(s api.Scanner) api.Scanner {
	s.Kept, s.Next, s.Matches = slices.Clone(s.Kept), slices.Clone(s.Next), slices.Clone(s.Matches)
	return s
}

func equal(a, b api.Scanner) bool {
	return a.At == b.At && a.Base == b.Base && bytes.Equal(a.Kept, b.Kept) && slices.Equal(a.Next, b.Next) && slices.Equal(a.Matches, b.Matches)
}

// P9.1 and P9.2: however a text is cut, the matches are those of the whole.
func TestPieces(t *testing.T) {
	r := rand.New(rand.NewSource(1))
	l := kinds(t, "a a{1,2}\nb [a-b]{2,40} whole\nc c{1,4} near 64 word 61616161 word 62\nd [a-c]{2}|a whole near 1 word 2d\ne [ac]{8} entropy 500000 near 30 word 626262\n")
	for round := range 30 {
		b := make([]byte, r.Intn(1500))
		for i := range b {
			b[i] = "aaabbbc- "[r.Intn(8+round%2)]
		}
		if round%3 == 0 {
			b = bytes.ReplaceAll(b, []byte("-"), []byte("a"))
		}
		want, _ := scan.All(l, b)
		s, e := New(l)
		if e != api.OK || !Valid(l, s) {
			t.Fatal(e)
		}
		size := []int{1, 7, 300, 600, 2000}[round%5]
		for at := 0; at < len(b); {
			to := min(at+r.Intn(size+1), len(b))
			if size == 1 {
				to = at + 1
			}
			before, piece := copyOf(s), slices.Clone(b[at:to])
			next, e := Feed(l, s, piece)
			if e != api.OK || !Valid(l, next) || Kept(next) > most || Kept(next) != len(next.Kept) || next.At != to || !equal(s, before) {
				t.Fatal(e, Kept(next), next.At)
			}
			clear(piece)
			clear(s.Kept)
			clear(s.Matches)
			clear(s.Next)
			s, at = next, to
		}
		got, e := Finish(l, s)
		if e != api.OK || !slices.Equal(got, want) {
			t.Fatalf("%d: %q: %v, %v", round, b, got, want)
		}
	}
}

// P9.2: words and whole at the greatest distance, in front and behind, for all cuts.
func TestBounds(t *testing.T) {
	l := kinds(t, "k ([a-z]{64}){4} whole near 64 word 3c3e\n")
	long := strings.Repeat("x", 256)
	for _, c := range []struct {
		s    string
		want int
	}{
		{long, 0}, {"<>" + long, 1}, {"<> " + strings.Repeat(" ", 61) + long, 1}, {"<> " + strings.Repeat(" ", 62) + long, 0},
		{long + strings.Repeat(" ", 62) + "<>", 1}, {strings.Repeat(" ", 10) + long + strings.Repeat(" ", 62) + "<>", 1}, {long + strings.Repeat(" ", 63) + "<>", 0}, {long + "0<>", 0}, {"0" + long + "<>", 0}, {strings.Repeat("-", 400) + "<>" + long, 1},
	} {
		all, _ := scan.All(l, []byte(c.s))
		if len(all) != c.want {
			t.Fatalf("%q: %v", c.s, all)
		}
		for cut := 0; cut <= len(c.s); cut++ {
			if cut%9 != 0 && (cut < len(c.s)-4 || len(all) == 0) {
				continue
			}
			s, _ := New(l)
			s, _ = Feed(l, s, []byte(c.s[:cut]))
			s, _ = Feed(l, s, []byte(c.s[cut:]))
			if got, e := Finish(l, s); e != api.OK || !slices.Equal(got, all) {
				t.Fatal(c.s, cut, got)
			}
		}
	}
}

// P9.1
func TestValid(t *testing.T) {
	l := kinds(t, "a a{1,2}\nb b\n")
	if _, e := New(nil); e != api.ErrLimit {
		t.Error(e)
	}
	if _, e := New([]api.Kind{{}}); e != api.ErrSyntax {
		t.Error(e)
	}
	good := api.Scanner{At: 5, Base: 3, Kept: []byte("ab"), Next: []int{0, 5}}
	if !Valid(l, good) || Valid(nil, good) || Valid(l[:1], good) || Kept(good) != 2 {
		t.Error("Valid")
	}
	for i, change := range []func(s *api.Scanner){
		func(s *api.Scanner) { s.At = 4 }, func(s *api.Scanner) { s.Base = 2 }, func(s *api.Scanner) { s.At, s.Base = -1, -3 }, func(s *api.Scanner) { s.At, s.Base = 1, -1 }, func(s *api.Scanner) { s.Next = []int{0} }, func(s *api.Scanner) { s.Next = []int{0, 6} }, func(s *api.Scanner) { s.Next = []int{-1, 0} },
		func(s *api.Scanner) { s.At, s.Base = api.MaxBytes+1, api.MaxBytes-1 }, func(s *api.Scanner) { s.Next = nil },
	} {
		s := copyOf(good)
		change(&s)
		_, e := Feed(l, s, nil)
		_, f := Finish(l, s)
		if Valid(l, s) || e != api.ErrInvalid || f != api.ErrInvalid {
			t.Error(i, e, f)
		}
		_, e = Feed(nil, s, nil)
		_, f = Finish(nil, s)
		if e != api.ErrLimit || f != api.ErrLimit {
			t.Error(i, e, f)
		}
	}
}

// P9.2
func TestLimit(t *testing.T) {
	l := kinds(t, "a a{1,2}\n")
	long := bytes.Repeat([]byte("a"), api.MaxBytes)
	s, _ := New(l)
	s, e := Feed(l, s, long)
	if e != api.OK || s.At != api.MaxBytes {
		t.Fatal(e)
	}
	if _, e := Feed(l, s, []byte("a")); e != api.ErrLimit {
		t.Error(e)
	}
	if s, e = Feed(l, s, nil); e != api.OK {
		t.Error(e)
	}
	if m, e := Finish(l, s); e != api.OK || len(m) != api.MaxBytes/2 {
		t.Error(len(m), e)
	}
	if _, e := Feed(l, api.Scanner{At: -1}, append(long, 'a')); e != api.ErrInvalid {
		t.Error(e)
	}
}
