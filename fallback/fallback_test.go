package fallback

import (
	"math/rand"
	"slices"
	"testing"

	"leakresponse/api"
	"leakresponse/fleet"
	"leakresponse/plan"
	"leakresponse/steps"
)

func consumer(n, pool int) api.Consumer {
	return api.Consumer{Pool: pool, Dual: n&1 == 1, Live: n&2 == 2}
}

// right returns all right states of a fleet.
func right(f api.Fleet) []api.Rotation {
	var units []api.Unit
	for n := range 9 {
		if n < 3 {
			units = append(units, api.Unit{Stored: 1 + n})
		}
		units = append(units, api.Unit{Up: true, Stored: 1 + n%3, Used: 1 + n/3})
	}
	all := [][]api.Unit{nil}
	for range f.Consumers {
		var longer [][]api.Unit
		for _, l := range all {
			for _, u := range units {
				longer = append(longer, append(slices.Clone(l), u))
			}
		}
		all = longer
	}
	var out []api.Rotation
	for _, l := range all {
		for valid := range 12 {
			if s := (api.Rotation{Known: valid / 4, Valid: valid % 4, Units: l}); fleet.Right(f, s) {
				out = append(out, s)
			}
			if s := (api.Rotation{Known: 3, Valid: valid % 4, Units: l}); valid < 4 && fleet.Right(f, s) {
				out = append(out, s)
			}
		}
	}
	return out
}

func check(t *testing.T, f api.Fleet, s api.Rotation) {
	t.Helper()
	l, e := Make(f, s)
	fit, holds := true, true
	for _, pool := range fleet.Pools(f) {
		fit = fit && plan.Fit(f, pool)
		holds = holds && slices.Contains(fleet.Served(f, s), pool)
	}
	if Hold(f, s) != holds {
		t.Fatal(f, s)
	}
	if !fit || !holds {
		if e != api.ErrOutage || len(l) > 0 {
			t.Fatal(f, s, e)
		}
		return
	}
	if e != api.OK || !plan.Check(f, s, l) || len(l) > plan.Bound(f) {
		t.Fatal(f, s, l, e)
	}
	before := []api.Rotation{s}
	states, _ := steps.Run(f, s, l)
	for _, x := range states {
		for _, y := range before {
			if !Forward(f, y, x) {
				t.Fatal(f, y, x)
			}
		}
		before = append(before, x)
	}
}

// P39.1 and P39.2: all states of all fleets of one and two consumers.
func TestSmall(t *testing.T) {
	for slots := 1; slots <= 2; slots++ {
		for a := range 4 {
			one := api.Fleet{Slots: slots, Consumers: []api.Consumer{consumer(a, 0)}}
			for _, s := range right(one) {
				check(t, one, s)
			}
			for b := range 4 {
				for pool := range 2 {
					two := api.Fleet{Slots: slots, Consumers: []api.Consumer{consumer(a, 0), consumer(b, pool)}}
					for _, s := range right(two) {
						check(t, two, s)
					}
				}
			}
		}
	}
}

// P39.1 and P39.2: random states of larger fleets.
func TestLarge(t *testing.T) {
	r := rand.New(rand.NewSource(1))
	for range 20000 {
		f := api.Fleet{Slots: 1 + r.Intn(2)}
		n := 3 + r.Intn(6)
		s := api.Rotation{Known: 3, Valid: 1 + r.Intn(3)}
		for i := range n {
			f.Consumers = append(f.Consumers, consumer(r.Intn(4), i/3))
			u := api.Unit{Up: r.Intn(4) > 0, Stored: 1 + r.Intn(3)}
			if u.Up {
				u.Used = 1 + r.Intn(3)
				if f.Consumers[i].Live {
					u.Used = u.Stored
				}
			}
			s.Units = append(s.Units, u)
		}
		if fleet.Right(f, s) {
			check(t, f, s)
		}
	}
}

// P39.1
func TestErrors(t *testing.T) {
	f := api.Fleet{Slots: 1, Consumers: []api.Consumer{consumer(0, 0)}}
	s, _ := fleet.Start(f)
	for i, c := range []struct {
		f api.Fleet
		s api.Rotation
		e api.Errno
	}{{api.Fleet{}, s, api.ErrFleet}, {f, api.Rotation{}, api.ErrFleet}, {f, s, api.ErrOutage}} {
		if l, e := Make(c.f, c.s); e != c.e || len(l) > 0 {
			t.Error(i, e)
		}
		if Hold(c.f, c.s) != (i == 2) || Forward(c.f, c.s, s) != (i == 2) || Forward(c.f, s, c.s) != (i == 2) {
			t.Error(i)
		}
	}
	short := api.Rotation{Known: s.Known, Valid: s.Valid}
	if Forward(f, s, short) || Forward(f, short, s) || !Forward(f, s, s) {
		t.Error("a state that is not right")
	}
	ok := api.Fleet{Slots: 1, Consumers: []api.Consumer{consumer(3, 0)}}
	end := api.Rotation{Known: 3, Valid: 2, Units: []api.Unit{{Up: true, Stored: 2, Used: 2}}}
	if l, e := Make(ok, end); e != api.OK || len(l) != 0 {
		t.Error(l, e)
	}
}

// P39.2
func TestForward(t *testing.T) {
	f := api.Fleet{Slots: 2, Consumers: []api.Consumer{consumer(0, 0)}}
	l := []api.Rotation{{Known: 1, Valid: 1}, {Known: 3, Valid: 1}, {Known: 3, Valid: 3}, {Known: 3, Valid: 2}}
	for i, s := range l {
		for k, x := range l {
			s.Units = []api.Unit{{Stored: 1}}
			x.Units = []api.Unit{{Up: true, Stored: 1, Used: 1}}
			if Forward(f, s, x) != (i <= k) {
				t.Error(i, k)
			}
		}
	}
}
