package fleet

import (
	"slices"
	"testing"

	"leakresponse/api"
)

func fleet(slots int, l ...api.Consumer) api.Fleet { return api.Fleet{Slots: slots, Consumers: l} }

func same(a, b api.Rotation) bool {
	return a.Known == b.Known && a.Valid == b.Valid && slices.Equal(a.Units, b.Units)
}

// P32.1
func TestCheck(t *testing.T) {
	c := api.Consumer{Pool: 7, Dual: true, Live: true}
	for i, x := range []struct {
		f  api.Fleet
		ok bool
	}{{fleet(1, c), true}, {fleet(1, api.Consumer{}), true}, {fleet(2, slices.Repeat([]api.Consumer{c}, 8)...), true}, {fleet(0, c), false}, {fleet(3, c), false}, {fleet(1), false}, {fleet(2, slices.Repeat([]api.Consumer{c}, 9)...), false}, {fleet(1, api.Consumer{Pool: 8}), false}, {fleet(1, api.Consumer{Pool: -1}), false}} {
		e := Check(x.f)
		s, e2 := Start(x.f)
		if (e == api.OK) != x.ok || e != api.OK && e != api.ErrFleet || e2 != e {
			t.Error(i, e, e2)
		}
		if x.ok {
			want := api.Rotation{Known: 1, Valid: 1, Units: slices.Repeat([]api.Unit{{Up: true, Stored: 1, Used: 1}}, len(x.f.Consumers))}
			if !same(s, want) || !Right(x.f, s) || !slices.Equal(Served(x.f, s), Pools(x.f)) || Ended(x.f, s) {
				t.Error(i, s)
			}
			continue
		}
		units := slices.Repeat([]api.Unit{{Up: true, Stored: 2, Used: 2}}, len(x.f.Consumers))
		end := api.Rotation{Known: 3, Valid: 2, Units: units}
		if !same(s, api.Rotation{}) || Right(x.f, end) || Ended(x.f, end) || len(Pools(x.f))+len(Units(x.f, 7))+len(Served(x.f, end)) > 0 || Serves(x.f, end, 0) {
			t.Error(i, "something of a fleet that is not valid")
		}
	}
}

// right follows the definition for one consumer.
func right(slots int, c api.Consumer, known, valid int, u api.Unit) bool {
	has := func(bits int) bool { return bits >= 1 && bits <= 3 && bits&^known == 0 }
	if known != 1 && known != 3 || !has(valid) || valid == 3 && slots == 1 {
		return false
	}
	if !has(u.Stored) || u.Stored == 3 && !c.Dual {
		return false
	}
	if !u.Up {
		return u.Used == 0
	}
	return has(u.Used) && !(u.Used == 3 && !c.Dual) && !(c.Live && u.Used != u.Stored)
}

// P32.2: all states of one consumer.
func TestRight(t *testing.T) {
	for slots := 1; slots <= 2; slots++ {
		for kind := range 4 {
			c := api.Consumer{Pool: 3, Dual: kind&1 == 1, Live: kind&2 == 2}
			f := fleet(slots, c)
			for n := range 6 * 6 * 6 * 6 * 2 {
				known, valid, stored, used, up := n%6-1, n/6%6-1, n/36%6-1, n/216%6-1, n/1296 == 1
				u := api.Unit{Up: up, Stored: stored, Used: used}
				s := api.Rotation{Known: known, Valid: valid, Units: []api.Unit{u}}
				is := right(slots, c, known, valid, u)
				if Right(f, s) != is {
					t.Fatal(f, s)
				}
				ended := is && valid == 2 && up && stored == 2 && used == 2
				serves := is && up && used&valid != 0
				if Ended(f, s) != ended || Serves(f, s, 0) != serves || (len(Served(f, s)) == 1) != serves {
					t.Fatal(f, s)
				}
			}
		}
	}
}

// P32.2
func TestPools(t *testing.T) {
	f := fleet(2, api.Consumer{Pool: 5}, api.Consumer{Pool: 1}, api.Consumer{Pool: 5}, api.Consumer{Pool: 3})
	if !slices.Equal(Pools(f), []int{1, 3, 5}) || !slices.Equal(Units(f, 5), []int{0, 2}) || !slices.Equal(Units(f, 1), []int{1}) || len(Units(f, 0))+len(Units(f, -1))+len(Units(f, 8)) > 0 || f.Consumers[0].Pool != 5 {
		t.Error(Pools(f), Units(f, 5))
	}
	s, _ := Start(f)
	s.Known, s.Valid = 3, 2
	s.Units[2].Stored, s.Units[2].Used = 2, 2
	if !slices.Equal(Served(f, s), []int{5}) || Serves(f, s, 0) || !Serves(f, s, 2) || Serves(f, s, -1) || Serves(f, s, 4) {
		t.Error(Served(f, s))
	}
	s.Units[1] = api.Unit{Stored: 2}
	if !Right(f, s) || !slices.Equal(Served(f, s), []int{5}) {
		t.Error("a unit that is down")
	}
	short := s
	short.Units = s.Units[:3]
	if Right(f, short) || len(Served(f, short)) > 0 || Serves(f, short, 2) {
		t.Error("too few units")
	}
	end := api.Rotation{Known: 3, Valid: 2, Units: slices.Repeat([]api.Unit{{Up: true, Stored: 2, Used: 2}}, 4)}
	if !Ended(f, end) || !slices.Equal(Served(f, end), Pools(f)) {
		t.Error("the end")
	}
	end.Units[3].Used = 1
	if Ended(f, end) {
		t.Error("not the end")
	}
}
