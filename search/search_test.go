package search

import (
	"slices"
	"testing"

	"leakresponse/api"
	"leakresponse/fleet"
	"leakresponse/steps"
)

func up(stored, used int) api.Unit { return api.Unit{Up: true, Stored: stored, Used: used} }

// right returns all right states of a fleet.
func right(f api.Fleet) []api.Rotation {
	units := []api.Unit{{Stored: 1}, {Stored: 2}, {Stored: 3}}
	for n := range 9 {
		units = append(units, up(1+n%3, 1+n/3))
	}
	var out []api.Rotation
	for _, known := range []int{1, 3} {
		for valid := 1; valid <= 3; valid++ {
			all := [][]api.Unit{nil}
			for range f.Consumers {
				var longer [][]api.Unit
				for _, l := range all {
					for _, u := range units {
						longer = append(longer, append(slices.Clone(l), u))
					}
				}
				all = longer
			}
			for _, l := range all {
				if s := (api.Rotation{Known: known, Valid: valid, Units: l}); fleet.Right(f, s) {
					out = append(out, s)
				}
			}
		}
	}
	return out
}

func same(a, b api.Rotation) bool {
	return a.Known == b.Known && a.Valid == b.Valid && slices.Equal(a.Units, b.Units)
}

// distances finds them without lists of steps: round by round over all right states.
func distances(f api.Fleet, s api.Rotation, all []api.Rotation) (int, int) {
	place := func(s api.Rotation) int {
		return slices.IndexFunc(all, func(x api.Rotation) bool { return same(x, s) })
	}
	far := slices.Repeat([]int{-1}, len(all))
	far[place(s)] = 0
	count, end := 1, -1
	if fleet.Ended(f, s) {
		end = 0
	}
	for round, again := 0, true; again; round++ {
		again = false
		for i := range all {
			if far[i] != round {
				continue
			}
			for kind := 1; kind <= 8; kind++ {
				for unit := range f.Consumers {
					x := api.Step{Kind: kind, Unit: unit}
					if !steps.Safe(f, all[i], x) {
						continue
					}
					next, _ := steps.Apply(f, all[i], x)
					if k := place(next); far[k] < 0 {
						far[k], again = round+1, true
						count++
						if fleet.Ended(f, next) {
							end = round + 1
						}
					}
				}
			}
		}
	}
	return count, end
}

// P34.1: all states of fleets of one consumer, and some of two.
func TestAll(t *testing.T) {
	kinds := func(n, pool int) api.Consumer {
		return api.Consumer{Pool: pool, Dual: n&1 == 1, Live: n&2 == 2}
	}
	var fleets []api.Fleet
	for slots := 1; slots <= 2; slots++ {
		for a := range 4 {
			fleets = append(fleets, api.Fleet{Slots: slots, Consumers: []api.Consumer{kinds(a, 0)}})
			for b := range 4 {
				fleets = append(fleets, api.Fleet{Slots: slots, Consumers: []api.Consumer{kinds(a, 0), kinds(b, b%2)}})
			}
		}
	}
	for _, f := range fleets {
		all := right(f)
		for i := 0; i < len(all); i += 1 + len(all)/12 {
			s := all[i]
			count, end := distances(f, s, all)
			n, e1 := Count(f, s)
			d, ok, e2 := Distance(f, s)
			l, ok2, e3 := Shortest(f, s)
			if e1 != api.OK || e2 != api.OK || e3 != api.OK || n != count || ok != (end >= 0) || ok2 != ok || d != max(end, 0) || len(l) != d {
				t.Fatal(f, s, n, count, d, end)
			}
			if k, e := steps.Fault(f, s, l); k != d || e != api.OK {
				t.Fatal(f, s, l)
			}
			states, _ := steps.Run(f, s, l)
			if last := append([]api.Rotation{s}, states...)[len(states)]; ok && !fleet.Ended(f, last) {
				t.Fatal(f, s, l)
			}
		}
	}
}

// P34.1
func TestExample(t *testing.T) {
	for slots := 1; slots <= 2; slots++ {
		f := api.Fleet{Slots: slots, Consumers: []api.Consumer{{Dual: true, Live: true}}}
		s, _ := fleet.Start(f)
		if d, ok, e := Distance(f, s); d != 4 || !ok || e != api.OK {
			t.Error(d, ok, e)
		}
	}
	f := api.Fleet{Slots: 2, Consumers: []api.Consumer{{}}}
	s, _ := fleet.Start(f)
	if d, ok, e := Distance(f, s); d != 0 || ok || e != api.OK {
		t.Error(d, ok, e)
	}
	if l, ok, e := Shortest(f, s); len(l) > 0 || ok || e != api.OK {
		t.Error(l, ok, e)
	}
}

// P34.1: errors, and three consumers.
func TestErrors(t *testing.T) {
	f := api.Fleet{Slots: 2, Consumers: slices.Repeat([]api.Consumer{{Dual: true, Pool: 4}}, 4)}
	s, _ := fleet.Start(f)
	three := api.Fleet{Slots: 2, Consumers: f.Consumers[:3]}
	start, _ := fleet.Start(three)
	for i, c := range []struct {
		f api.Fleet
		s api.Rotation
		e api.Errno
	}{{api.Fleet{}, s, api.ErrFleet}, {f, api.Rotation{}, api.ErrFleet}, {f, s, api.ErrLimit}, {three, s, api.ErrFleet}, {three, start, 0}} {
		n, e1 := Count(c.f, c.s)
		d, ok, e2 := Distance(c.f, c.s)
		l, ok2, e3 := Shortest(c.f, c.s)
		if e1 != c.e || e2 != c.e || e3 != c.e {
			t.Error(i, e1, e2, e3)
		}
		if c.e != api.OK && (n+d+len(l) > 0 || ok || ok2) || c.e == api.OK && (!ok || !ok2 || n < 1000) {
			t.Error(i, n, d, ok)
		}
	}
}
