package directory

import (
	"math"
	"math/rand"
	"slices"
	"testing"

	"leakresponse/api"
)

const (
	person  = api.PrincipalPerson
	group   = api.PrincipalGroup
	service = api.PrincipalService
)

func join(t, p, g int) api.Member {
	return api.Member{Time: t, Kind: api.MemberJoin, Principal: p, Group: g}
}
func leave(t, p, g int) api.Member {
	return api.Member{Time: t, Kind: api.MemberLeave, Principal: p, Group: g}
}

// P23.1
func TestCheck(t *testing.T) {
	kinds := []int{person, group, group, service}
	for i, c := range []struct {
		d  api.Directory
		ok bool
	}{
		{api.Directory{}, true}, {api.Directory{Kinds: slices.Repeat([]int{person}, 24)}, true}, {api.Directory{Kinds: slices.Repeat([]int{person}, 25)}, false}, {api.Directory{Kinds: []int{0}}, false}, {api.Directory{Kinds: []int{4}}, false},
		{api.Directory{Kinds: kinds, Events: slices.Repeat([]api.Member{join(0, 0, 1)}, 120)}, true}, {api.Directory{Kinds: kinds, Events: slices.Repeat([]api.Member{join(0, 0, 1)}, 121)}, false},
		{api.Directory{Kinds: kinds, Events: []api.Member{join(0, 0, 1), leave(0, 3, 2), join(api.MaxTime, 1, 2)}}, true}, {api.Directory{Kinds: kinds, Events: []api.Member{join(-1, 0, 1)}}, false}, {api.Directory{Kinds: kinds, Events: []api.Member{join(api.MaxTime+1, 0, 1)}}, false}, {api.Directory{Kinds: kinds, Events: []api.Member{join(5, 0, 1), join(4, 0, 1)}}, false},
		{api.Directory{Kinds: kinds, Events: []api.Member{{Kind: 3, Group: 1}}}, false}, {api.Directory{Kinds: kinds, Events: []api.Member{{Group: 1}}}, false}, {api.Directory{Kinds: kinds, Events: []api.Member{join(0, 1, 1)}}, false}, {api.Directory{Kinds: kinds, Events: []api.Member{join(0, 0, 3)}}, false}, {api.Directory{Kinds: kinds, Events: []api.Member{join(0, 4, 1)}}, false}, {api.Directory{Kinds: kinds, Events: []api.Member{join(0, -1, 1)}}, false}, {api.Directory{Kinds: kinds, Events: []api.Member{join(0, 0, 4)}}, false}, {api.Directory{Kinds: kinds, Events: []api.Member{join(0, 0, -1)}}, false},
	} {
		e := Check(c.d)
		if (e == api.OK) != c.ok || e != api.OK && e != api.ErrDirectory {
			t.Error(i, e)
		}
		if c.ok {
			continue
		}
		why, ok := Why(c.d, 0, 1, 0)
		if len(Direct(c.d, 1, 0))+len(Groups(c.d, 0, 0))+len(Members(c.d, 1, 0))+len(Upward(c.d, 0, 0))+len(why) > 0 || ok || In(c.d, 0, 1, 0) || Proves(c.d, 0, []int{0, 1}) || Closed(c.d, 0, nil) {
			t.Error(i, "something of a directory that is not valid")
		}
	}
}

// P23.1: principals that do not exist, and no groups.
func TestNothing(t *testing.T) {
	d := api.Directory{Kinds: []int{person, group, service}, Events: []api.Member{join(0, 0, 1), join(0, 2, 1)}}
	for _, p := range []int{-1, 3, math.MaxInt, math.MinInt} {
		why, ok := Why(d, p, 1, 0)
		why2, ok2 := Why(d, 0, p, 0)
		if len(Direct(d, p, 0))+len(Groups(d, p, 0))+len(Members(d, p, 0))+len(Upward(d, p, 0))+len(why)+len(why2) > 0 || ok || ok2 || In(d, p, 1, 0) || Proves(d, 0, []int{p, 1}) || Proves(d, 0, []int{0, p}) || Closed(d, 0, []int{p}) {
			t.Error(p)
		}
	}
	for _, p := range []int{0, 2} {
		if len(Direct(d, p, 0))+len(Members(d, p, 0)) > 0 || In(d, 1, p, 0) || In(d, p, p, 0) {
			t.Error(p)
		}
	}
	if !slices.Equal(Direct(d, 1, 0), []int{0, 2}) || len(Direct(d, 1, -1)) > 0 {
		t.Error("Direct")
	}
}

// slow finds a chain by trying all ways.
func slow(d api.Directory, at int, seen []int, to int) bool {
	p := seen[len(seen)-1]
	for g := range d.Kinds {
		if !slices.Contains(seen, g) && direct(d, p, g, at) && (g == to || slow(d, at, append(slices.Clone(seen), g), to)) {
			return true
		}
	}
	return false
}

func direct(d api.Directory, p, g, at int) bool {
	is := false
	for _, x := range d.Events {
		if x.Time <= at && x.Principal == p && x.Group == g {
			is = x.Kind == api.MemberJoin
		}
	}
	return is
}

// P23.2 and P23.3
func TestChains(t *testing.T) {
	r := rand.New(rand.NewSource(1))
	for range 300 {
		d := api.Directory{Kinds: []int{person, group, group, service, group, group}}
		r.Shuffle(6, func(i, k int) { d.Kinds[i], d.Kinds[k] = d.Kinds[k], d.Kinds[i] })
		at := 0
		for range r.Intn(15) {
			at += r.Intn(3)
			x := join(at, r.Intn(6), r.Intn(6))
			if r.Intn(4) == 0 {
				x.Kind = api.MemberLeave
			}
			if x.Principal != x.Group && d.Kinds[x.Group] == group {
				d.Events = append(d.Events, x)
			}
		}
		when := r.Intn(at + 2)
		for g := range d.Kinds {
			var in, members []int
			for p := range d.Kinds {
				if d.Kinds[g] == group && direct(d, p, g, when) {
					in = append(in, p)
				}
				want := p != g && slow(d, when, []int{p}, g)
				if want && d.Kinds[p] != group {
					members = append(members, p)
				}
				chain, ok := Why(d, p, g, when)
				if ok != want || In(d, p, g, when) != want || slices.Contains(Groups(d, p, when), g) != want || slices.Contains(Upward(d, p, when), g) != (want || p == g) {
					t.Fatal(d, when, p, g, chain)
				}
				if ok && (!Proves(d, when, chain) || chain[0] != p || chain[len(chain)-1] != g) || !ok && len(chain) > 0 {
					t.Fatal(d, when, p, g, chain)
				}
			}
			if !slices.Equal(Direct(d, g, when), in) || !slices.Equal(Members(d, g, when), members) {
				t.Fatal(d, when, g)
			}
			if !slices.IsSorted(Upward(d, g, when)) || !slices.IsSorted(Groups(d, g, when)) || !Closed(d, when, Upward(d, g, when)) {
				t.Fatal(d, when, g)
			}
		}
		for bits := range 64 {
			var set []int
			closed := true
			for p := range d.Kinds {
				if bits>>p&1 == 1 {
					set = append(set, p)
				}
				for g := range d.Kinds {
					closed = closed && !(bits>>p&1 == 1 && bits>>g&1 == 0 && direct(d, p, g, when))
				}
			}
			if Closed(d, when, set) != closed {
				t.Fatal(d, when, set)
			}
		}
	}
}

// P23.3
func TestProves(t *testing.T) {
	d := api.Directory{Kinds: []int{person, group, group, group}, Events: []api.Member{join(1, 0, 1), join(1, 1, 2), join(2, 2, 1), leave(9, 0, 1)}}
	for i, c := range []struct {
		at    int
		chain []int
		want  bool
	}{{1, []int{0, 1}, true}, {1, []int{0, 1, 2}, true}, {1, []int{0, 2}, false}, {1, []int{0}, false}, {1, nil, false}, {2, []int{0, 1, 2, 1}, false}, {2, []int{1, 2, 1}, false}, {2, []int{2, 1}, true}, {1, []int{2, 1}, false}, {0, []int{0, 1}, false}, {9, []int{0, 1}, false}, {9, []int{1, 2}, true}, {1, []int{1, 0}, false}} {
		if Proves(d, c.at, c.chain) != c.want {
			t.Error(i)
		}
	}
	if why, ok := Why(d, 0, 2, 5); !ok || !slices.Equal(why, []int{0, 1, 2}) {
		t.Error(why)
	}
	for _, set := range [][]int{{2, 1}, {1, 1, 2}, {1, 2, 2}, {0, 1}} {
		if Closed(d, 5, set) {
			t.Error(set)
		}
	}
	if !Closed(d, 5, nil) || !Closed(d, 5, []int{0, 1, 2}) || !Closed(d, 5, []int{3}) {
		t.Error("Closed")
	}
}

// P23.3: a chain of all principals.
func TestWhole(t *testing.T) {
	d := api.Directory{Kinds: []int{person, group, group}, Events: []api.Member{join(0, 0, 1), join(0, 1, 2)}}
	if !Proves(d, 0, []int{0, 1, 2}) || Proves(d, 0, []int{0, 1, 2, 2}) {
		t.Error("a chain of all")
	}
}
