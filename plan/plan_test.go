package plan

import (
	"slices"
	"testing"

	"leakresponse/api"
	"leakresponse/fleet"
	"leakresponse/search"
	"leakresponse/steps"
)

func consumer(n, pool int) api.Consumer {
	return api.Consumer{Pool: pool, Dual: n&1 == 1, Live: n&2 == 2}
}

// fleets returns all fleets with n consumers in the pools 0 to 2.
func fleets(n int) []api.Fleet {
	all := []api.Fleet{{Slots: 1}, {Slots: 2}}
	for range n {
		var longer []api.Fleet
		for _, f := range all {
			for kind := range 12 {
				longer = append(longer, api.Fleet{Slots: f.Slots, Consumers: append(slices.Clone(f.Consumers), consumer(kind%4, kind/4))})
			}
		}
		all = longer
	}
	return all
}

// P35.1 and P35.2: there is a plan exactly if all pools are fit, as the search of all states says.
func TestExactly(t *testing.T) {
	for n := 1; n <= 3; n++ {
		for k, f := range fleets(n) {
			if n == 3 && k%7 != 0 {
				continue
			}
			s, _ := fleet.Start(f)
			l, e := Make(f)
			_, ok, _ := search.Distance(f, s)
			hindrance, no := Why(f)
			if ok != (e == api.OK) || ok == no || e != api.OK && (e != api.ErrOutage || len(l) > 0) {
				t.Fatal(f, ok, e)
			}
			if ok && (!Check(f, s, l) || len(l) > Bound(f)) {
				t.Fatal(f, l)
			}
			for _, pool := range fleet.Pools(f) {
				// A pool alone has a plan exactly if it is fit.
				part := api.Fleet{Slots: f.Slots}
				for _, i := range fleet.Units(f, pool) {
					part.Consumers = append(part.Consumers, f.Consumers[i])
				}
				_, e := Make(part)
				if Fit(f, pool) != (e == api.OK) || no && (pool < hindrance.Pool && !Fit(f, pool) || pool == hindrance.Pool && Fit(f, pool)) {
					t.Fatal(f, pool, hindrance)
				}
			}
			if !no && hindrance != (api.Hindrance{}) {
				t.Fatal(hindrance)
			}
		}
	}
}

// P35.2: large fleets.
func TestLarge(t *testing.T) {
	for slots := 1; slots <= 2; slots++ {
		for n := range 1 << 16 {
			if n%97 != 0 {
				continue
			}
			f := api.Fleet{Slots: slots}
			for i := range 8 {
				f.Consumers = append(f.Consumers, consumer(n>>(2*i)&3, i/(2+n%2)))
			}
			s, _ := fleet.Start(f)
			l, e := Make(f)
			if _, no := Why(f); no != (e == api.ErrOutage) || !no && (!Check(f, s, l) || len(l) > Bound(f) || Bound(f) != 43) {
				t.Fatal(f, l, e)
			}
		}
	}
}

// P35.1
func TestFit(t *testing.T) {
	for i, c := range []struct {
		slots int
		l     []api.Consumer
		fit   bool
	}{
		{1, []api.Consumer{consumer(0, 5)}, false}, {1, []api.Consumer{consumer(1, 5)}, false}, {1, []api.Consumer{consumer(2, 5)}, false}, {1, []api.Consumer{consumer(3, 5)}, true}, {2, []api.Consumer{consumer(0, 5)}, false}, {2, []api.Consumer{consumer(1, 5)}, false}, {2, []api.Consumer{consumer(2, 5)}, true}, {2, []api.Consumer{consumer(3, 5)}, true}, {1, []api.Consumer{consumer(0, 5), consumer(0, 5)}, true},
	} {
		f := api.Fleet{Slots: c.slots, Consumers: c.l}
		h, no := Why(f)
		if Fit(f, 5) != c.fit || no == c.fit || no && h.Pool != 5 || Fit(f, 4) || Fit(f, -1) || Fit(f, 9) || Bound(f) != 5*len(c.l)+3 {
			t.Error(i, h, no)
		}
	}
	f := api.Fleet{Slots: 1, Consumers: []api.Consumer{consumer(0, 7), consumer(0, 3), consumer(3, 1), consumer(2, 4)}}
	if h, no := Why(f); h.Pool != 3 || !no {
		t.Error(h)
	}
	bad := api.Fleet{Slots: 3, Consumers: f.Consumers}
	h, no := Why(bad)
	l, e := Make(bad)
	if Fit(bad, 1) || no || h.Pool != 0 || len(l) > 0 || e != api.ErrFleet || Bound(bad) != 0 || Check(bad, api.Rotation{}, nil) {
		t.Error("not valid")
	}
}

// P35.2
func TestCheck(t *testing.T) {
	f := api.Fleet{Slots: 1, Consumers: []api.Consumer{consumer(3, 0)}}
	s, _ := fleet.Start(f)
	l, _ := Make(f)
	states, _ := steps.Run(f, s, l)
	end := states[len(states)-1]
	for i, c := range []struct {
		s    api.Rotation
		l    []api.Step
		want bool
	}{{s, l, true}, {s, l[:3], false}, {s, nil, false}, {end, nil, true}, {states[0], l[1:], true}, {s, l[1:], false}, {s, append([]api.Step{{Kind: api.StepStop}, {Kind: api.StepStart}}, l...), false}, {api.Rotation{}, l, false}, {end, slices.Repeat([]api.Step{{Kind: 99}}, 121), false}} {
		if Check(f, c.s, c.l) != c.want {
			t.Error(i)
		}
	}
}
