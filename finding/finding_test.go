package finding

import (
	"math/rand"
	"slices"
	"strconv"
	"strings"
	"testing"

	"leakresponse/api"
	"leakresponse/decode"
	"leakresponse/fingerprint"
	"leakresponse/library"
)

func kinds(t *testing.T, s string) []api.Kind {
	l, e := library.Parse(s)
	if e != api.OK {
		t.Fatal(e)
	}
	return l
}

func place(source int, path string, t int) api.Place {
	return api.Place{Source: source, Path: path, Time: t}
}

func content(s string, places ...api.Place) api.Content {
	return api.Content{Data: []byte(s), Places: places}
}

func spot(p api.Place, from, to int, layers ...api.Layer) api.Spot {
	return api.Spot{Place: p, From: from, To: to, Layers: layers}
}

// P20.1
func TestCollect(t *testing.T) {
	k := kinds(t, "a tok[0-9]\nb [a-z]{8}\n")
	p, q := place(1, "q", 5), place(0, "z", 9)
	l := []api.Content{content("tok1 tok2 tok1", p, q), content("746f6b31 tok2", p), content("tok1", q)}
	got, e := Collect(7, k, l)
	hex := api.Layer{Coding: api.CodingHex, From: 0, To: 8}
	want := []api.Finding{
		{Kind: 0, Fingerprint: fingerprint.Of(7, 0, []byte("tok1")), Where: []api.Spot{spot(q, 0, 4), spot(q, 10, 14), spot(p, 0, 4), spot(p, 10, 14), spot(p, 0, 4, hex)}},
		{Kind: 0, Fingerprint: fingerprint.Of(7, 0, []byte("tok2")), Where: []api.Spot{spot(q, 5, 9), spot(p, 5, 9), spot(p, 9, 13)}},
	}
	if want[0].Fingerprint > want[1].Fingerprint {
		want[0], want[1] = want[1], want[0]
	}
	if e != api.OK || !Same(got, want) || !Ordered(got) {
		t.Error(got, e)
	}
	if other, _ := Collect(8, k, l); Same(other, got) || Spots(other) != Spots(got) {
		t.Error("the key")
	}
	if got, e := Collect(7, k, nil); e != api.OK || len(got) > 0 {
		t.Error(e)
	}
	if _, e := Collect(7, nil, nil); e != api.ErrLimit {
		t.Error(e)
	}
	if _, e := Collect(7, []api.Kind{{}}, nil); e != api.ErrSyntax {
		t.Error(e)
	}
	if _, e := Collect(7, k, []api.Content{content(strings.Repeat("x", api.MaxBytes+1))}); e != api.ErrLimit {
		t.Error(e)
	}
}

// P20.1: the bound of spots, of which equal ones count once.
func TestLimit(t *testing.T) {
	k := kinds(t, "a tok[0-9]\n")
	var places []api.Place
	for i := range 2001 {
		places = append(places, place(0, strconv.Itoa(i), 0))
	}
	if l, e := Collect(1, k, []api.Content{content("tok1 tok1", places[:2000]...), content("tok1", places[:2000]...)}); e != api.OK || Spots(l) != 4000 || len(l) != 1 {
		t.Error(e)
	}
	if l, e := Collect(1, k, []api.Content{content("tok1 tok1", places...)}); e != api.ErrLimit || len(l) > 0 {
		t.Error(e)
	}
	one := func(n, from int) []api.Finding {
		f := api.Finding{}
		for i := range n {
			f.Where = append(f.Where, api.Spot{From: from + i})
		}
		return []api.Finding{f}
	}
	if l, e := Merge(one(2000, 0), one(2000, 2000)); e != api.OK || Spots(l) != 4000 {
		t.Error(e)
	}
	if l, e := Merge(one(2001, 0), one(2000, 1)); e != api.OK || Spots(l) != 2001 {
		t.Error(e)
	}
	if l, e := Merge(one(2001, 0), one(2000, 2001)); e != api.ErrLimit || len(l) > 0 {
		t.Error(e)
	}
}

// P20.1, against the hits one by one, and the consequence that two lists are merged.
func TestCollectMerge(t *testing.T) {
	k := kinds(t, "a [a-b]{2}[0-9]\nb a[0-9]\n")
	r := rand.New(rand.NewSource(1))
	for range 200 {
		random := func() []api.Content {
			var l []api.Content
			for range r.Intn(4) {
				s := ""
				for range r.Intn(6) {
					s += []string{"ab1", "a1 ", "bb2", "YWIxYWIx ", "61623161 ", "%61b1abc "}[r.Intn(6)]
				}
				c := content(s)
				for range 1 + r.Intn(2) {
					c.Places = append(c.Places, place(r.Intn(2), string("xy"[r.Intn(2)]), r.Intn(2)))
				}
				l = append(l, c)
			}
			return l
		}
		x, y := random(), random()
		a, e := Collect(3, k, x)
		b, f := Collect(3, k, y)
		both, g := Collect(3, k, slices.Concat(x, y))
		if e != api.OK || f != api.OK || g != api.OK || !Ordered(a) || !Ordered(b) || !Ordered(both) {
			t.Fatal(e, f, g)
		}
		ab, e := Merge(a, b)
		ba, f := Merge(b, a)
		twice, g := Merge(a, a)
		if e != api.OK || f != api.OK || g != api.OK || !Same(ab, both) || !Same(ba, both) || !Same(twice, a) {
			t.Fatal(x, y)
		}
		count := map[string]bool{}
		for _, c := range slices.Concat(x, y) {
			hits, _ := decode.Scan(k, c.Data)
			for _, h := range hits {
				text, _ := decode.Open(c.Data, h.Layers)
				n := Find(both, h.Match.Kind, fingerprint.Of(3, h.Match.Kind, text[h.Match.From:h.Match.To]))
				for _, p := range c.Places {
					s := spot(p, h.Match.From, h.Match.To, h.Layers...)
					at := slices.IndexFunc(both[n].Where, func(z api.Spot) bool { return compareSpots(s, z) == 0 })
					if at < 0 {
						t.Fatal(s)
					}
					count[strconv.Itoa(n)+" "+strconv.Itoa(at)] = true
				}
			}
		}
		if len(count) != Spots(both) {
			t.Fatal(len(count), Spots(both))
		}
	}
}

// P20.2
func TestOrdered(t *testing.T) {
	layer := func(n int) api.Layer { return api.Layer{Coding: 1, From: n, To: 9} }
	spots := []api.Spot{
		spot(place(0, "", 0), 0, 0), spot(place(0, "", 0), 0, 1), spot(place(0, "", 0), 1, 0), spot(place(0, "", 0), 0, 0, layer(0)), spot(place(0, "", 0), 0, 0, layer(0), layer(0)), spot(place(0, "", 0), 0, 0, layer(1)),
		spot(place(0, "", 1), 0, 0), spot(place(0, "A", 0), 0, 0), spot(place(0, "a", 0), 0, 0), spot(place(1, "", 0), 0, 0),
	}
	for i, a := range spots {
		for k, b := range spots {
			if Ordered([]api.Finding{{Where: []api.Spot{a, b}}}) != (i < k) {
				t.Error(i, k)
			}
		}
	}
	one := spots[:1]
	secrets := []api.Finding{{Kind: -1, Fingerprint: 9, Where: one}, {Where: one}, {Fingerprint: 1, Where: one}, {Fingerprint: 1 << 63, Where: one}, {Kind: 1, Where: one}}
	for i, a := range secrets {
		for k, b := range secrets {
			if Ordered([]api.Finding{a, b}) != (i < k) {
				t.Error(i, k)
			}
			_, e := Merge([]api.Finding{a, b}, nil)
			_, f := Merge(nil, []api.Finding{a, b})
			if (e == api.OK) != (i < k) || f != e || e != api.OK && e != api.ErrInvalid {
				t.Error(i, k, e, f)
			}
			if (Same([]api.Finding{a}, []api.Finding{b})) != (i == k) {
				t.Error(i, k)
			}
		}
	}
	if !Ordered(nil) || Ordered([]api.Finding{{}}) || Same(secrets, secrets[1:]) || Same([]api.Finding{{}}, secrets[1:2]) {
		t.Error("Ordered")
	}
	if Spots(secrets) != 5 || Find(secrets, 0, 1) != 2 || Find(secrets, 0, 7) != -1 || Find(append(secrets, secrets[4]), 1, 0) != 4 {
		t.Error("Spots, Find")
	}
}

// P20.2: Merge shares no memory.
func TestMergeShares(t *testing.T) {
	a := []api.Finding{{Where: []api.Spot{spot(place(0, "", 0), 0, 0, api.Layer{From: 5})}}}
	m, _ := Merge(a, a)
	m[0].Where[0].Layers[0].From = 7
	m[0].Where[0].From = 7
	if a[0].Where[0].Layers[0].From != 5 || a[0].Where[0].From != 0 {
		t.Error("shared memory")
	}
}
