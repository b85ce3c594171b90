package decode

import (
	"bytes"
	"math/rand"
	"slices"
	"strings"
	"testing"

	"leakresponse/api"
	"leakresponse/coding"
	"leakresponse/library"
	"leakresponse/scan"
)

func kinds(t *testing.T, text string) []api.Kind {
	l, e := library.Parse(text)
	if e != api.OK {
		t.Fatal(text, e)
	}
	return l
}

func equal(a, b api.Hit) bool {
	return slices.Equal(a.Layers, b.Layers) && a.Match == b.Match
}

type opened struct {
	layers []api.Layer
	text   []byte
}

// naive returns all texts, however many bytes they have.
func naive(x opened) []opened {
	out := []opened{x}
	if len(x.layers) == api.MaxLayers {
		return out
	}
	for _, r := range coding.Runs(x.text) {
		b, _ := coding.Decode(r.Coding, string(x.text[r.From:r.To]))
		out = append(out, naive(opened{append(slices.Clone(x.layers), api.Layer{Coding: r.Coding, From: r.From, To: r.To}), b})...)
	}
	return out
}

func encode(c int, s string) string {
	out, _ := coding.Encode(c, []byte(s))
	return out
}

// P10.2
func TestScan(t *testing.T) {
	l := kinds(t, "token [a-z]{3}[0-9] whole\nword abc\n")
	r := rand.New(rand.NewSource(1))
	deepest := 0
	for range 300 {
		s := "token=abc1"
		for range r.Intn(5) {
			s = []string{"x abc2 ", "(", "", "abc"}[r.Intn(4)] + encode(1+r.Intn(4), s) + []string{" y", "=", "", "%4"}[r.Intn(4)]
		}
		var want []api.Hit
		all := naive(opened{nil, []byte(s)})
		texts, e := Texts([]byte(s))
		if e != api.OK || len(texts) != len(all) {
			t.Fatal(s, e)
		}
		for i, x := range all {
			if !slices.Equal(texts[i], x.layers) {
				t.Fatal(s, texts[i], x.layers)
			}
			if b, e := Open([]byte(s), x.layers); e != api.OK || !bytes.Equal(b, x.text) {
				t.Fatal(s, x, e)
			}
			deepest = max(deepest, len(x.layers))
			matches, _ := scan.All(l, x.text)
			for _, m := range matches {
				want = append(want, api.Hit{Layers: x.layers, Match: m})
			}
		}
		got, e := Scan(l, []byte(s))
		if e != api.OK || !slices.EqualFunc(got, want, equal) {
			t.Fatal(s, got, want, e)
		}
		for i := range got {
			for k := range got {
				if Less(got[i], got[k]) != (i < k) {
					t.Fatal(s, got[i], got[k])
				}
			}
		}
	}
	if deepest != api.MaxLayers {
		t.Error(deepest)
	}
	hits, e := Scan(l, []byte("x "+encode(api.CodingHex, "token=abc1")))
	if e != api.OK || !slices.ContainsFunc(hits, func(h api.Hit) bool {
		return equal(h, api.Hit{Layers: []api.Layer{{Coding: api.CodingHex, From: 2, To: 22}}, Match: api.Match{Kind: 0, From: 6, To: 10}})
	}) {
		t.Error(hits, e)
	}
}

// P10.1
func TestOpen(t *testing.T) {
	s := []byte("  " + encode(api.CodingHex, "abcdefgh"))
	run := api.Layer{Coding: api.CodingHex, From: 2, To: 18}
	if b, e := Open(s, []api.Layer{run}); e != api.OK || string(b) != "abcdefgh" {
		t.Error(b, e)
	}
	b, e := Open(s, nil)
	if e != api.OK || !bytes.Equal(b, s) {
		t.Error(b, e)
	}
	b[0] = 'X'
	if s[0] == 'X' {
		t.Error("shared memory")
	}
	for _, x := range []api.Layer{{}, {Coding: api.CodingHex, From: 4, To: 18}, {Coding: api.CodingHex, From: 2, To: 16}, {Coding: api.CodingPercent, From: 2, To: 18}, {Coding: 1, From: -1, To: 99}} {
		if b, e := Open(s, []api.Layer{x}); e != api.ErrMissing || len(b) > 0 {
			t.Error(x, e)
		}
	}
	if _, e := Open(s, []api.Layer{run, run}); e != api.ErrMissing {
		t.Error(e)
	}
	if _, e := Open(s, []api.Layer{{}, {}, {}, {}}); e != api.ErrLimit {
		t.Error(e)
	}
	if _, e := Open(make([]byte, api.MaxBytes+1), nil); e != api.ErrLimit {
		t.Error(e)
	}
	if b, e := Open(make([]byte, api.MaxBytes), nil); e != api.OK || len(b) != api.MaxBytes {
		t.Error(e)
	}
}

// P10.2: the bounds.
func TestLimit(t *testing.T) {
	l := kinds(t, "word abc\n")
	long := make([]byte, api.MaxBytes+1)
	_, e := Scan(nil, long)
	_, f := Scan(l, long)
	_, g := Texts(long)
	if e != api.ErrLimit || f != api.ErrLimit || g != api.ErrLimit {
		t.Error(e, f, g)
	}
	if _, e := Scan([]api.Kind{{}}, long); e != api.ErrSyntax {
		t.Error(e)
	}
	if texts, e := Texts(long[1:]); e != api.OK || len(texts) != 1 || len(texts[0]) != 0 {
		t.Error(e)
	}
	// Behind each % a text of nearly the same size is opened, so that each byte counts four times.
	sizes := map[bool]bool{}
	for n := 65520; n <= 65536; n++ {
		s := "%252525" + strings.Repeat("-", n-15) + "00000000"
		sum := 0
		for _, x := range naive(opened{nil, []byte(s)}) {
			sum += len(x.text)
		}
		over := sum > api.MaxDecoded
		sizes[over] = true
		texts, e := Texts([]byte(s))
		hits, f := Scan(l, []byte(s))
		if (e == api.ErrLimit) != over || (f == api.ErrLimit) != over || over && len(texts)+len(hits) > 0 {
			t.Error(n, sum, e, f)
		}
	}
	for n, want := range map[int]api.Errno{65524: api.OK, 65525: api.ErrLimit} {
		s := []byte("%252525" + strings.Repeat("-", n-24) + "00000000-00000000") // at n = 65524 exactly MaxDecoded
		if _, e := Texts(s); e != want {
			t.Error(n, e)
		}
	}
	s := []byte("%252525" + strings.Repeat("a", 65529))
	if texts, e := Texts(s); e != api.ErrLimit || len(texts) > 0 || len(sizes) != 2 {
		t.Error(e, sizes)
	}
}

// P10.2
func TestLess(t *testing.T) {
	at := func(n ...int) []api.Layer {
		var out []api.Layer
		for i := 0; i < len(n); i += 3 {
			out = append(out, api.Layer{From: n[i], Coding: n[i+1], To: n[i+2]})
		}
		return out
	}
	l := []api.Hit{
		{Match: api.Match{From: 1, To: 2, Kind: 1}}, {Match: api.Match{From: 1, To: 3}}, {Match: api.Match{From: 2, To: 2}}, {Match: api.Match{From: 2, To: 2, Kind: 1}},
		{Layers: at(1, 2, 3)}, {Layers: at(1, 2, 3), Match: api.Match{From: 9}}, {Layers: at(1, 2, 3, 0, 0, 0)}, {Layers: at(1, 2, 4)}, {Layers: at(1, 3, 0)}, {Layers: at(2, 1, 0)},
	}
	for i := range l {
		for k := range l {
			if Less(l[i], l[k]) != (i < k) {
				t.Error(i, k)
			}
		}
	}
}

// P10.2: no two hits share memory.
func TestShares(t *testing.T) {
	hits, e := Scan(kinds(t, "word abc\n"), []byte(encode(api.CodingHex, "abc abc")+" "))
	if e != api.OK || len(hits) != 2 {
		t.Fatal(hits, e)
	}
	hits[0].Layers[0].From = 99
	if hits[1].Layers[0].From != 0 {
		t.Error("shared memory")
	}
}
