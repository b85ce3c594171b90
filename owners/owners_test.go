package owners

import (
	"math/rand"
	"slices"
	"testing"

	"leakresponse/api"
)

func by(t, subject, steward int) api.Steward {
	return api.Steward{Time: t, Subject: subject, Steward: steward}
}

var sample = api.Directory{Kinds: []int{api.PrincipalPerson, api.PrincipalGroup, api.PrincipalService, api.PrincipalPerson, api.PrincipalGroup}}

// P26.1
func TestCheck(t *testing.T) {
	for i, c := range []struct {
		l  []api.Steward
		ok bool
	}{
		{nil, true}, {[]api.Steward{by(0, 2, 1), by(0, 1, 0), by(api.MaxTime, 0, -1)}, true}, {[]api.Steward{by(-1, 2, 1)}, false}, {[]api.Steward{by(api.MaxTime+1, 2, 1)}, false}, {[]api.Steward{by(5, 2, 1), by(4, 2, 1)}, false},
		{[]api.Steward{by(0, 5, 1)}, false}, {[]api.Steward{by(0, -1, 1)}, false}, {[]api.Steward{by(0, 1, 5)}, false}, {[]api.Steward{by(0, 1, -2)}, false}, {[]api.Steward{by(0, 1, 1)}, false},
		{slices.Repeat([]api.Steward{by(0, 2, 1)}, 120), true}, {slices.Repeat([]api.Steward{by(0, 2, 1)}, 121), false},
	} {
		e := Check(sample, c.l)
		if (e == api.OK) != c.ok || e != api.OK && e != api.ErrOwners {
			t.Error(i, e)
		}
		bad := api.Directory{Kinds: []int{9}}
		if e := Check(bad, c.l); e != api.ErrDirectory {
			t.Error(i, e)
		}
		d := bad
		if !c.ok {
			d = sample
		}
		n, ok := Owner(d, c.l, 0, 0)
		if Of(d, c.l, 2, 0) != -1 || len(Way(d, c.l, 0, 0))+len(Orphans(d, c.l, 0))+len(Owned(d, c.l, 0, 0)) > 0 || n != 0 || ok {
			t.Error(i, "something of what is not valid")
		}
	}
	l := []api.Steward{by(0, 2, 1)}
	for _, p := range []int{-1, 5, 1 << 40, -1 << 40} {
		n, ok := Owner(sample, l, p, 0)
		if Of(sample, l, p, 0) != -1 || len(Way(sample, l, p, 0))+len(Owned(sample, l, p, 0)) > 0 || n != 0 || ok {
			t.Error(p)
		}
	}
}

// P26.2
func TestOwner(t *testing.T) {
	l := []api.Steward{by(3, 2, 1), by(3, 1, 0), by(5, 2, 4), by(5, 4, 2), by(7, 2, -1), by(9, 0, 3)}
	for i, c := range []struct {
		p, t  int
		way   []int
		owner int
		ok    bool
	}{
		{2, 2, []int{2}, 0, false}, {2, 3, []int{2, 1, 0}, 0, true}, {1, 4, []int{1, 0}, 0, true}, {2, 5, []int{2, 4}, 0, false}, {4, 6, []int{4, 2}, 0, false}, {4, 7, []int{4, 2}, 0, false}, {2, 7, []int{2}, 0, false}, {1, 9, []int{1, 0, 3}, 0, true}, {0, 9, []int{0, 3}, 0, true}, {3, 9, []int{3}, 3, true}, {2, -1, []int{2}, 0, false},
	} {
		n, ok := Owner(sample, l, c.p, c.t)
		if way := Way(sample, l, c.p, c.t); !slices.Equal(way, c.way) || n != c.owner || ok != c.ok {
			t.Error(i, way, n, ok)
		}
		of := -1
		if len(c.way) > 1 {
			of = c.way[1]
		}
		if c.p != 4 && Of(sample, l, c.p, c.t) != of {
			t.Error(i, Of(sample, l, c.p, c.t))
		}
	}
	if Of(sample, l, 4, 5) != 2 || !slices.Equal(Orphans(sample, l, 5), []int{2, 4}) || !slices.Equal(Owned(sample, l, 0, 4), []int{0, 1, 2}) || len(Owned(sample, l, 1, 4)) > 0 {
		t.Error("Orphans, Owned")
	}
}

// P26.2, consequence: each principal has one owner, or is an orphan.
func TestParts(t *testing.T) {
	r := rand.New(rand.NewSource(1))
	for range 500 {
		var l []api.Steward
		at := 0
		for range r.Intn(10) {
			at += r.Intn(2)
			if x := by(at, r.Intn(5), r.Intn(6)-1); x.Subject != x.Steward {
				l = append(l, x)
			}
		}
		when := r.Intn(at + 2)
		all := Orphans(sample, l, when)
		for p := range sample.Kinds {
			owned := Owned(sample, l, p, when)
			all = append(all, owned...)
			if slices.Contains(owned, p) != (sample.Kinds[p] == api.PrincipalPerson) {
				t.Fatal(l, p, owned)
			}
			way := Way(sample, l, p, when)
			for i, q := range way {
				if next := Of(sample, l, q, when); i+1 < len(way) && way[i+1] != next || i+1 == len(way) && next != -1 && !slices.Contains(way, next) || slices.Contains(way[:i], q) {
					t.Fatal(l, way)
				}
			}
		}
		slices.Sort(all)
		if !slices.Equal(all, []int{0, 1, 2, 3, 4}) {
			t.Fatal(l, all)
		}
	}
}
