package steps

import (
	"math/rand"
	"slices"
	"testing"

	"leakresponse/api"
	"leakresponse/fleet"
)

func same(a, b api.Rotation) bool {
	return a.Known == b.Known && a.Valid == b.Valid && slices.Equal(a.Units, b.Units)
}

func step(kind, unit int) api.Step { return api.Step{Kind: kind, Unit: unit} }

func state(known, valid int, l ...api.Unit) api.Rotation {
	return api.Rotation{Known: known, Valid: valid, Units: l}
}

func up(stored, used int) api.Unit { return api.Unit{Up: true, Stored: stored, Used: used} }

func down(stored int) api.Unit { return api.Unit{Stored: stored} }

// P33.1: every step, where it is possible and where not.
func TestApply(t *testing.T) {
	plain, dual, live := api.Consumer{}, api.Consumer{Dual: true}, api.Consumer{Live: true}
	both := api.Consumer{Dual: true, Live: true}
	old := up(1, 1)
	none := api.Rotation{}
	for i, c := range []struct {
		c     api.Consumer
		slots int
		s     api.Rotation
		x     api.Step
		want  api.Rotation
		e     api.Errno
	}{
		{plain, 1, state(1, 1, old), step(api.StepMake, 0), state(3, 1, old), 0}, {plain, 1, state(3, 1, old), step(api.StepMake, 0), none, api.ErrStep}, {plain, 1, state(1, 1, old), step(api.StepMake, 1), none, api.ErrRange},
		{plain, 2, state(3, 1, old), step(api.StepEnable, 0), state(3, 3, old), 0}, {plain, 1, state(3, 1, old), step(api.StepEnable, 0), none, api.ErrStep}, {plain, 2, state(1, 1, old), step(api.StepEnable, 0), none, api.ErrStep}, {plain, 2, state(3, 3, old), step(api.StepEnable, 0), none, api.ErrStep}, {plain, 2, state(3, 2, old), step(api.StepEnable, 0), none, api.ErrStep}, {plain, 2, state(3, 1, old), step(api.StepEnable, -1), none, api.ErrRange},
		{plain, 1, state(3, 1, old), step(api.StepSwap, 0), state(3, 2, old), 0}, {plain, 2, state(3, 1, old), step(api.StepSwap, 0), state(3, 2, old), 0}, {plain, 1, state(1, 1, old), step(api.StepSwap, 0), none, api.ErrStep}, {plain, 2, state(3, 3, old), step(api.StepSwap, 0), none, api.ErrStep}, {plain, 1, state(3, 2, old), step(api.StepSwap, 0), none, api.ErrStep}, {plain, 1, state(3, 1, old), step(api.StepSwap, 1), none, api.ErrRange},
		{plain, 2, state(3, 3, old), step(api.StepRevoke, 0), state(3, 2, old), 0}, {plain, 2, state(3, 1, old), step(api.StepRevoke, 0), none, api.ErrStep}, {plain, 2, state(3, 2, old), step(api.StepRevoke, 0), none, api.ErrStep}, {plain, 2, state(3, 3, old), step(api.StepRevoke, 1), none, api.ErrRange},
		{plain, 1, state(3, 1, old), step(api.StepGive, 0), state(3, 1, up(2, 1)), 0}, {dual, 1, state(3, 1, old), step(api.StepGive, 0), state(3, 1, up(3, 1)), 0}, {live, 1, state(3, 1, old), step(api.StepGive, 0), state(3, 1, up(2, 2)), 0}, {both, 1, state(3, 1, old), step(api.StepGive, 0), state(3, 1, up(3, 3)), 0}, {both, 1, state(3, 1, down(1)), step(api.StepGive, 0), state(3, 1, down(3)), 0},
		{plain, 1, state(1, 1, old), step(api.StepGive, 0), none, api.ErrStep}, {plain, 1, state(3, 1, up(2, 1)), step(api.StepGive, 0), none, api.ErrStep}, {dual, 1, state(3, 1, up(3, 1)), step(api.StepGive, 0), none, api.ErrStep}, {plain, 1, state(3, 1, old), step(api.StepGive, 1), none, api.ErrRange}, {plain, 1, state(3, 1, old), step(api.StepGive, -1), none, api.ErrRange},
		{dual, 1, state(3, 1, up(3, 1)), step(api.StepDrop, 0), state(3, 1, up(2, 1)), 0}, {both, 1, state(3, 1, up(3, 3)), step(api.StepDrop, 0), state(3, 1, up(2, 2)), 0}, {both, 1, state(3, 1, down(3)), step(api.StepDrop, 0), state(3, 1, down(2)), 0}, {dual, 1, state(3, 1, old), step(api.StepDrop, 0), none, api.ErrStep}, {dual, 1, state(3, 1, up(2, 2)), step(api.StepDrop, 0), none, api.ErrStep}, {dual, 1, state(3, 1, old), step(api.StepDrop, 1), none, api.ErrRange},
		{dual, 1, state(3, 1, up(3, 1)), step(api.StepStop, 0), state(3, 1, down(3)), 0}, {plain, 1, state(1, 1, down(1)), step(api.StepStop, 0), none, api.ErrStep}, {plain, 1, state(1, 1, old), step(api.StepStop, 1), none, api.ErrRange}, {dual, 1, state(3, 1, down(3)), step(api.StepStart, 0), state(3, 1, up(3, 3)), 0}, {live, 1, state(3, 1, down(2)), step(api.StepStart, 0), state(3, 1, up(2, 2)), 0}, {plain, 1, state(1, 1, old), step(api.StepStart, 0), none, api.ErrStep}, {plain, 1, state(1, 1, old), step(api.StepStart, 8), none, api.ErrRange},
		{plain, 1, state(1, 1, old), step(0, 0), none, api.ErrRange}, {plain, 1, state(1, 1, old), step(9, 0), none, api.ErrRange}, {plain, 1, state(2, 1, old), step(9, 0), none, api.ErrFleet}, {plain, 0, state(1, 1, old), step(9, 0), none, api.ErrFleet}, {plain, 1, state(1, 1), step(1, 0), none, api.ErrFleet},
	} {
		f := api.Fleet{Slots: c.slots, Consumers: []api.Consumer{c.c}}
		before := slices.Clone(c.s.Units)
		got, e := Apply(f, c.s, c.x)
		if e != c.e || !same(got, c.want) || Possible(f, c.s, c.x) != (c.e == api.OK) || !slices.Equal(before, c.s.Units) {
			t.Error(i, got, e)
		}
		if e == api.OK && !fleet.Right(f, got) {
			t.Error(i, "not right")
		}
		if e != api.OK && Safe(f, c.s, c.x) {
			t.Error(i, "safe")
		}
	}
}

// P33.1
func TestSafe(t *testing.T) {
	f := api.Fleet{Slots: 1, Consumers: []api.Consumer{{Pool: 1}, {Pool: 1}, {Pool: 2, Dual: true, Live: true}}}
	s := state(3, 1, up(1, 1), up(2, 1), up(3, 3))
	for x, want := range map[api.Step]bool{step(api.StepStop, 0): true, step(api.StepStop, 2): false, step(api.StepSwap, 0): false, step(api.StepDrop, 2): false, step(api.StepGive, 0): true, step(api.StepMake, 0): false} {
		if Safe(f, s, x) != want {
			t.Error(x)
		}
	}
	s.Units[1] = up(2, 2)
	if !Safe(f, s, step(api.StepSwap, 0)) || Safe(f, s, step(api.StepStop, 0)) || !Safe(f, s, step(api.StepStop, 1)) {
		t.Error("a swap")
	}
	// A pool that does not serve need not serve behind a step.
	s.Units[0] = up(1, 1)
	s.Valid = 2
	if !Safe(f, s, step(api.StepStop, 0)) || Safe(f, s, step(api.StepStop, 1)) {
		t.Error("what does not serve")
	}
	want := []api.Step{step(api.StepGive, 0), step(api.StepStop, 0), step(api.StepDrop, 2)}
	got := Choices(f, s)
	slices.SortFunc(want, func(x, y api.Step) int { return 10*(x.Kind-y.Kind) + x.Unit - y.Unit })
	if !slices.Equal(got, want) {
		t.Error(got)
	}
	if len(Choices(f, state(1, 1))) > 0 || len(Choices(api.Fleet{}, state(1, 1))) > 0 {
		t.Error("not right")
	}
}

// P33.2
func TestRun(t *testing.T) {
	f := api.Fleet{Slots: 1, Consumers: []api.Consumer{{Dual: true, Live: true}}}
	s, _ := fleet.Start(f)
	l := []api.Step{step(api.StepMake, 0), step(api.StepGive, 0), step(api.StepSwap, 0), step(api.StepDrop, 0)}
	states, e := Run(f, s, l)
	if e != api.OK || len(states) != 4 || !same(states[1], state(3, 1, up(3, 3))) || !fleet.Ended(f, states[3]) {
		t.Error(states, e)
	}
	if n, e := Fault(f, s, l); n != 4 || e != api.OK {
		t.Error(n, e)
	}
	long := slices.Repeat([]api.Step{step(9, 9)}, 121)
	toggle := []api.Step{step(api.StepStop, 0), step(api.StepStart, 0)}
	for i, c := range []struct {
		f api.Fleet
		s api.Rotation
		l []api.Step
		e api.Errno // of Run
		n int
		g api.Errno // of Fault
	}{
		{f, s, nil, 0, 0, 0}, {api.Fleet{}, s, long, api.ErrFleet, 0, api.ErrFleet}, {f, state(9, 9), long, api.ErrFleet, 0, api.ErrFleet}, {f, s, long, api.ErrLimit, 0, api.ErrLimit}, {f, s, long[1:], api.ErrRange, 0, api.ErrRange}, {f, s, append(slices.Clone(l[:2]), l[1], step(9, 9)), api.ErrStep, 2, api.ErrStep},
		{f, s, toggle, 0, 0, api.ErrOutage}, {f, s, append(slices.Clone(l[:1]), toggle...), 0, 1, api.ErrOutage}, {f, s, slices.Repeat(toggle, 60), 0, 0, api.ErrOutage}, {f, s, append(slices.Clone(l[:1]), step(api.StepSwap, 0), step(9, 0)), api.ErrRange, 1, api.ErrOutage},
	} {
		states, e := Run(c.f, c.s, c.l)
		n, g := Fault(c.f, c.s, c.l)
		if e != c.e || n != c.n || g != c.g || e != api.OK && len(states) > 0 || e == api.OK && len(states) != len(c.l) {
			t.Error(i, e, n, g)
		}
	}
}

// P33.1 and P33.2: all along random steps.
func TestWalk(t *testing.T) {
	r := rand.New(rand.NewSource(1))
	for range 200 {
		f := api.Fleet{Slots: 1 + r.Intn(2)}
		for range 1 + r.Intn(4) {
			f.Consumers = append(f.Consumers, api.Consumer{Pool: r.Intn(3), Dual: r.Intn(2) == 0, Live: r.Intn(2) == 0})
		}
		s, _ := fleet.Start(f)
		first, begin := fleet.Served(f, s), s
		var l []api.Step
		for range 30 {
			choices := Choices(f, s)
			for kind := 0; kind <= 9; kind++ {
				for unit := -1; unit <= len(f.Consumers); unit++ {
					x := step(kind, unit)
					next, e := Apply(f, s, x)
					if e == api.OK && (!fleet.Right(f, next) || s.Valid&api.BitOld == 0 && next.Valid&api.BitOld != 0) {
						t.Fatal(f, s, x)
					}
					safe := e == api.OK
					for _, pool := range fleet.Served(f, s) {
						safe = safe && slices.Contains(fleet.Served(f, next), pool)
					}
					if Safe(f, s, x) != safe || slices.Contains(choices, x) != safe {
						t.Fatal(f, s, x)
					}
				}
			}
			if len(choices) == 0 {
				break
			}
			x := choices[r.Intn(len(choices))]
			l = append(l, x)
			s, _ = Apply(f, s, x)
			if served := fleet.Served(f, s); !slices.Equal(served, first) {
				t.Fatal(f, s)
			}
		}
		if n, e := Fault(f, begin, l); n != len(l) || e != api.OK {
			t.Fatal(f, l, n, e)
		}
	}
}

// P33.1: the steps of the issuer have the Unit 0, also if there are more units.
func TestUnits(t *testing.T) {
	f := api.Fleet{Slots: 2, Consumers: make([]api.Consumer, 2)}
	for kind, s := range map[int]api.Rotation{api.StepMake: state(1, 1, up(1, 1), up(1, 1)), api.StepEnable: state(3, 1, up(1, 1), up(1, 1)), api.StepSwap: state(3, 1, up(1, 1), up(1, 1)), api.StepRevoke: state(3, 3, up(1, 1), up(1, 1))} {
		if _, e := Apply(f, s, step(kind, 1)); e != api.ErrRange || !Possible(f, s, step(kind, 0)) {
			t.Error(kind, e)
		}
	}
	if _, e := Apply(f, state(3, 1, up(1, 1), up(1, 1)), step(api.StepGive, 1)); e != api.OK {
		t.Error(e)
	}
}
