package runner

import (
	"math/rand"
	"slices"
	"testing"

	"leakresponse/api"
	"leakresponse/fleet"
	"leakresponse/plan"
	"leakresponse/steps"
)

const (
	done, lost, mute, twice, back = api.OutcomeDone, api.OutcomeLost, api.OutcomeMute, api.OutcomeTwice, api.OutcomeBack
)

func same(a, b api.Rotation) bool {
	return a.Known == b.Known && a.Valid == b.Valid && slices.Equal(a.Units, b.Units)
}

func attempt(x api.Step, outcome int) api.Attempt {
	return api.Attempt{Step: x, Outcome: outcome, There: outcome != lost && outcome != back}
}

var (
	sample    = api.Fleet{Slots: 1, Consumers: []api.Consumer{{Dual: true, Live: true}}}
	start, _  = fleet.Start(sample)
	list, _   = plan.Make(sample)
	states, _ = steps.Run(sample, start, list)
)

// P37.1 and P37.2
func TestRun(t *testing.T) {
	a, b := list[0], list[1]
	bad := api.Step{Kind: api.StepStart}
	for i, c := range []struct {
		l        []api.Step
		outcomes []int
		state    api.Rotation
		attempts []api.Attempt
		way      []api.Rotation
		e        api.Errno
	}{
		{list[:1], []int{lost, mute}, states[0], []api.Attempt{attempt(a, lost), attempt(a, mute)}, []api.Rotation{start, start, states[0]}, 0},
		{list[:2], []int{twice, back, done, lost}, states[1], []api.Attempt{attempt(a, twice), attempt(b, back), attempt(b, done)}, []api.Rotation{start, states[0], states[1], states[0], states[1]}, 0},
		{list[:2], nil, states[1], []api.Attempt{attempt(a, done), attempt(b, done)}, []api.Rotation{start, states[0], states[1]}, 0}, {nil, []int{lost}, start, nil, []api.Rotation{start}, 0},
		{list[:1], []int{lost, lost, lost, lost, lost}, states[0], []api.Attempt{attempt(a, lost), attempt(a, lost), attempt(a, lost), attempt(a, lost), attempt(a, lost), attempt(a, done)}, []api.Rotation{start, start, start, start, start, start, states[0]}, 0},
		{list[:2], []int{done, lost, lost, lost, lost, lost, back, done}, states[0], append([]api.Attempt{attempt(a, done)}, attempt(b, lost), attempt(b, lost), attempt(b, lost), attempt(b, lost), attempt(b, lost), attempt(b, back)), []api.Rotation{start, states[0], states[0], states[0], states[0], states[0], states[0], states[1], states[0]}, api.ErrTries},
		{[]api.Step{a, bad, b}, []int{lost}, states[0], []api.Attempt{attempt(a, lost), attempt(a, done)}, []api.Rotation{start, start, states[0]}, api.ErrStep}, {[]api.Step{{Kind: 9}, a}, []int{back}, start, nil, []api.Rotation{start}, api.ErrRange},
	} {
		s, attempts, e := Run(sample, start, c.l, c.outcomes)
		way, f := States(sample, start, c.l, c.outcomes)
		if e != c.e || f != c.e || !same(s, c.state) || !slices.Equal(attempts, c.attempts) || !slices.EqualFunc(way, c.way, same) {
			t.Error(i, s, attempts, way, e, f)
		}
		for _, x := range append(way[1:], s) {
			x.Units[0].Stored = 9
		}
		if start.Units[0].Stored != 1 || way[0].Units[0].Stored != 1 {
			t.Error(i, "shared memory")
		}
	}
}

// P37.1 and P37.2: errors ahead of all.
func TestErrors(t *testing.T) {
	long := slices.Repeat([]api.Step{{Kind: 9}}, 121)
	for i, c := range []struct {
		f        api.Fleet
		s        api.Rotation
		l        []api.Step
		outcomes []int
		e        api.Errno
	}{{api.Fleet{}, start, long, []int{9}, api.ErrFleet}, {sample, api.Rotation{}, long, []int{9}, api.ErrFleet}, {sample, start, long, []int{9}, api.ErrLimit}, {sample, start, long[1:], []int{done, 5}, api.ErrRange}, {sample, start, list, []int{-1}, api.ErrRange}} {
		s, attempts, e := Run(c.f, c.s, c.l, c.outcomes)
		way, f := States(c.f, c.s, c.l, c.outcomes)
		if e != c.e || f != c.e || !same(s, api.Rotation{}) || len(attempts)+len(way) > 0 {
			t.Error(i, e, f)
		}
	}
	if s, attempts, e := Run(sample, start, long[1:], nil); e != api.ErrRange || !same(s, start) || len(attempts) > 0 {
		t.Error(e)
	}
}

// P37.2
func TestLeft(t *testing.T) {
	a, b := list[0], list[1]
	for i, c := range []struct {
		tried []api.Attempt
		left  int
		e     api.Errno
	}{
		{nil, 4, 0}, {[]api.Attempt{attempt(a, lost)}, 4, 0}, {[]api.Attempt{attempt(a, lost), attempt(a, mute)}, 3, 0}, {[]api.Attempt{attempt(a, twice), attempt(b, back), attempt(b, done), attempt(list[2], done), attempt(list[3], done)}, 0, 0},
		{[]api.Attempt{attempt(b, done)}, 0, api.ErrOpen}, {[]api.Attempt{attempt(a, lost), attempt(b, done)}, 0, api.ErrOpen}, {[]api.Attempt{attempt(a, done), attempt(a, done)}, 0, api.ErrOpen}, {[]api.Attempt{attempt(a, done), attempt(b, done), attempt(list[2], done), attempt(list[3], done), attempt(a, done)}, 0, api.ErrOpen},
		{[]api.Attempt{attempt(b, done), attempt(b, 5)}, 0, api.ErrRange}, {[]api.Attempt{{Step: a, Outcome: -1}}, 0, api.ErrRange}, {[]api.Attempt{{Step: a, Outcome: done}}, 0, api.ErrRange}, {[]api.Attempt{{Step: a, Outcome: lost, There: true}}, 0, api.ErrRange}, {[]api.Attempt{{Step: a, Outcome: back, There: true}}, 0, api.ErrRange}, {[]api.Attempt{{Step: a, Outcome: twice}}, 0, api.ErrRange},
	} {
		left, e := Left(list, c.tried)
		if e != c.e || !slices.Equal(left, list[4-c.left:]) {
			t.Error(i, left, e)
		}
	}
	left, _ := Left(list, nil)
	left[0].Kind = 99
	if list[0].Kind == 99 {
		t.Error("shared memory")
	}
}

// Consequences: the end is that of the list, no state serves less, and what is left leads there, too.
func TestConsequences(t *testing.T) {
	r := rand.New(rand.NewSource(1))
	for range 500 {
		f := api.Fleet{Slots: 1 + r.Intn(2)}
		for i := range 2 + r.Intn(4) {
			f.Consumers = append(f.Consumers, api.Consumer{Pool: i / 2, Dual: true, Live: r.Intn(2) == 0 || i >= 4})
		}
		f.Consumers[len(f.Consumers)-1].Live = true
		l, e := plan.Make(f)
		if e != api.OK {
			continue
		}
		var outcomes []int
		for range 40 {
			outcomes = append(outcomes, r.Intn(5))
		}
		s, _ := fleet.Start(f)
		all, _ := steps.Run(f, s, l)
		end, tried, e := Run(f, s, l, outcomes)
		way, _ := States(f, s, l, outcomes)
		for _, x := range way {
			if !same(x, s) && !slices.ContainsFunc(all, func(y api.Rotation) bool { return same(x, y) }) || !slices.Equal(fleet.Served(f, x), fleet.Pools(f)) {
				t.Fatal(f, x)
			}
		}
		left, g := Left(l, tried)
		if g != api.OK || (e == api.OK) != (len(left) == 0) || e != api.OK && e != api.ErrTries {
			t.Fatal(f, left, e, g)
		}
		end, _, e = Run(f, end, left, nil)
		if e != api.OK || !same(end, all[len(all)-1]) || !fleet.Ended(f, end) {
			t.Fatal(f, end, e)
		}
	}
}
