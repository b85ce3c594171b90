package notice

import (
	"math"
	"math/rand"
	"slices"
	"testing"

	"leakresponse/api"
	"leakresponse/calendar"
	"leakresponse/owners"
)

func opened(t, n, level, owner int) api.Case {
	return api.Case{Time: t, Kind: api.CaseOpened, Case: n, Level: level, Owner: owner}
}

func acknowledged(t, n int) api.Case { return api.Case{Time: t, Kind: api.CaseAcknowledged, Case: n} }
func closed(t, n int) api.Case       { return api.Case{Time: t, Kind: api.CaseClosed, Case: n} }

func told(t, n, to, step int) api.Notice { return api.Notice{Time: t, Case: n, To: to, Step: step} }

var (
	always  = api.Calendar{Day: 1, To: 1, Week: 127}
	people  = api.Directory{Kinds: []int{1, 2, 3, 1}}
	steward = []api.Steward{{Time: 0, Subject: 2, Steward: 1}, {Time: 0, Subject: 1, Steward: 0}, {Time: 12, Subject: 0, Steward: 3}}
)

// P41.1
func TestCheck(t *testing.T) {
	many := []api.Case{opened(0, 0, 1, 0)}
	for len(many) < 101 {
		many = append(many, acknowledged(0, 0))
	}
	for i, c := range []struct {
		l  []api.Case
		ok bool
	}{
		{nil, true}, {[]api.Case{opened(0, 15, 1, 3), closed(0, 15), acknowledged(api.MaxTime, 15), closed(api.MaxTime, 15)}, true}, {many[:100], true}, {many, false}, {[]api.Case{opened(-1, 0, 1, 0)}, false}, {[]api.Case{opened(api.MaxTime+1, 0, 1, 0)}, false}, {[]api.Case{opened(5, 0, 1, 0), opened(4, 1, 1, 0)}, false},
		{[]api.Case{opened(0, 16, 1, 0)}, false}, {[]api.Case{opened(0, -1, 1, 0)}, false}, {[]api.Case{opened(0, 0, 0, 0)}, false}, {[]api.Case{opened(0, 0, 5, 0)}, false}, {[]api.Case{opened(0, 0, 4, 4)}, false}, {[]api.Case{opened(0, 0, 4, -1)}, false},
		{[]api.Case{opened(0, 0, 4, 0), opened(0, 0, 4, 0)}, false}, {[]api.Case{opened(0, 0, 4, 0), closed(1, 0), opened(2, 0, 4, 0)}, false}, {[]api.Case{closed(0, 0)}, false}, {[]api.Case{acknowledged(0, 0), opened(0, 0, 1, 0)}, false}, {[]api.Case{opened(0, 0, 1, 0), {Kind: api.CaseClosed, Level: 1}}, false}, {[]api.Case{opened(0, 0, 1, 0), {Kind: api.CaseAcknowledged, Owner: 1}}, false}, {[]api.Case{opened(0, 0, 1, 0), {Kind: 4}}, false}, {[]api.Case{{Level: 1}}, false},
	} {
		e := Check(people, c.l)
		if (e == api.OK) != c.ok || e != api.OK && e != api.ErrNotice {
			t.Error(i, e)
		}
		if e := Check(api.Directory{Kinds: []int{9}}, c.l); e != api.ErrDirectory {
			t.Error(i, e)
		}
		if !c.ok && len(Open(people, c.l, 99)) > 0 || len(Open(api.Directory{Kinds: []int{9}}, c.l, 99)) > 0 {
			t.Error(i)
		}
	}
	for level, want := range map[int]int{0: 0, 1: 40, 2: 16, 3: 4, 4: 1, 5: 0, -1: 0, math.MaxInt: 0, math.MinInt: 0} {
		if Deadline(level) != want {
			t.Error(level)
		}
	}
}

// P41.1
func TestOpen(t *testing.T) {
	l := []api.Case{opened(1, 7, 1, 0), opened(2, 3, 1, 0), acknowledged(3, 7), closed(5, 7), opened(5, 1, 1, 0)}
	for at, want := range map[int][]int{0: nil, 1: {7}, 2: {3, 7}, 4: {3, 7}, 5: {1, 3}, math.MaxInt: {1, 3}, -1: nil} {
		if got := Open(people, l, at); !slices.Equal(got, want) {
			t.Error(at, got)
		}
	}
}

// P41.2
func TestAll(t *testing.T) {
	for i, c := range []struct {
		l     []api.Case
		until int
		want  []api.Notice
	}{
		{[]api.Case{opened(5, 2, 4, 2)}, 99, []api.Notice{told(5, 2, 2, 0), told(6, 2, 1, 1), told(7, 2, 0, 2), told(8, 2, 0, 3)}}, {[]api.Case{opened(5, 2, 4, 2)}, 7, []api.Notice{told(5, 2, 2, 0), told(6, 2, 1, 1), told(7, 2, 0, 2)}}, {[]api.Case{opened(5, 2, 4, 2)}, 4, nil},
		{[]api.Case{opened(10, 2, 4, 2)}, 99, []api.Notice{told(10, 2, 2, 0), told(11, 2, 1, 1), told(12, 2, 0, 2), told(13, 2, 3, 3)}}, {[]api.Case{opened(10, 2, 3, 2), acknowledged(14, 2)}, 99, []api.Notice{told(10, 2, 2, 0)}}, {[]api.Case{opened(10, 2, 3, 2), acknowledged(15, 2)}, 99, []api.Notice{told(10, 2, 2, 0), told(14, 2, 1, 1)}}, {[]api.Case{opened(10, 2, 3, 2), closed(10, 2)}, 99, []api.Notice{told(10, 2, 2, 0)}},
		{[]api.Case{opened(0, 2, 1, 3)}, 999, []api.Notice{told(0, 2, 3, 0), told(40, 2, 3, 1), told(80, 2, 3, 2), told(120, 2, 3, 3)}}, {[]api.Case{opened(0, 9, 3, 1), opened(0, 2, 3, 0), opened(3, 4, 4, 2), closed(4, 9)}, 4, []api.Notice{told(0, 2, 0, 0), told(0, 9, 1, 0), told(3, 4, 2, 0), told(4, 2, 0, 1), told(4, 4, 1, 1)}},
		{[]api.Case{opened(0, 2, 2, 2), opened(1, 3, 2, 2), acknowledged(2, 3)}, 16, []api.Notice{told(0, 2, 2, 0), told(1, 3, 2, 0), told(16, 2, 1, 1)}},
	} {
		if got, e := All(always, people, steward, c.l, c.until); e != api.OK || !slices.Equal(got, c.want) {
			t.Error(i, got, e)
		}
	}
}

// P41.2
func TestErrors(t *testing.T) {
	never := api.Calendar{Day: 1, To: 1}
	badSteward := []api.Steward{{Subject: 9}}
	badCase := []api.Case{{}}
	for i, c := range []struct {
		c api.Calendar
		d api.Directory
		s []api.Steward
		l []api.Case
		t int
		e api.Errno
	}{
		{api.Calendar{}, api.Directory{Kinds: []int{9}}, badSteward, badCase, -1, api.ErrCalendar}, {never, api.Directory{Kinds: []int{9}}, badSteward, badCase, -1, api.ErrDirectory}, {never, people, badSteward, badCase, -1, api.ErrOwners}, {never, people, nil, badCase, -1, api.ErrNotice}, {never, people, nil, []api.Case{opened(0, 0, 4, 0)}, -1, api.ErrRange}, {never, people, nil, []api.Case{opened(0, 0, 4, 0)}, api.MaxTime + 1, api.ErrRange},
		{never, people, nil, []api.Case{opened(5, 0, 4, 0)}, 5, api.ErrOpen}, {never, people, nil, []api.Case{opened(5, 0, 4, 0)}, 4, 0}, {never, people, nil, []api.Case{opened(5, 0, 4, 0), acknowledged(5, 0)}, 5, api.ErrOpen}, {always, people, nil, []api.Case{opened(api.MaxTime, 0, 4, 0)}, api.MaxTime, api.ErrOpen}, {always, people, nil, []api.Case{opened(api.MaxTime-3, 0, 4, 0)}, api.MaxTime, 0}, {always, people, nil, nil, 0, 0},
	} {
		all, e := All(c.c, c.d, c.s, c.l, c.t)
		late, f := Late(c.c, c.d, c.s, c.l, c.t)
		if e != c.e || f != c.e || e != api.OK && len(all)+len(late) > 0 {
			t.Error(i, e, f)
		}
	}
}

// P41.2: Late, and the consequences.
func TestLate(t *testing.T) {
	l := []api.Case{opened(0, 5, 4, 2), opened(0, 3, 4, 2), opened(0, 8, 2, 2), opened(1, 1, 4, 2), acknowledged(2, 1), closed(3, 3)}
	for at, want := range map[int][]int{0: nil, 1: {3, 5}, 2: {3, 5}, 3: {5}, 16: {5, 8}} {
		if got, e := Late(always, people, steward, l, at); e != api.OK || !slices.Equal(got, want) {
			t.Error(at, got, e)
		}
	}
	r := rand.New(rand.NewSource(1))
	office := api.Calendar{Day: 6, From: 2, To: 5, Week: 31, Holidays: []int{2, 4}}
	for range 300 {
		var l []api.Case
		at := 0
		for n := range 6 {
			at += r.Intn(6)
			l = append(l, opened(at, n, 1+r.Intn(4), r.Intn(4)))
			for range r.Intn(2) {
				at += r.Intn(6)
				x := acknowledged(at, r.Intn(n+1))
				x.Kind += r.Intn(2)
				l = append(l, x)
			}
		}
		until := r.Intn(300)
		all, e := All(office, people, steward, l, until)
		if e != api.OK {
			t.Fatal(e)
		}
		// One notice gives the next one, as the chapter says.
		var want []api.Notice
		for _, x := range l {
			if x.Kind != api.CaseOpened {
				continue
			}
			when := x.Time
			for step := 0; step < 4 && when <= until; step++ {
				way := owners.Way(people, steward, x.Owner, when)
				want = append(want, told(when, x.Case, way[min(step, len(way)-1)], step))
				when, _ = calendar.Add(office, when, Deadline(x.Level))
				if slices.ContainsFunc(l, func(y api.Case) bool { return y.Case == x.Case && y.Kind > 1 && y.Time <= when }) {
					break
				}
			}
		}
		slices.SortFunc(want, func(x, y api.Notice) int {
			return (x.Time-y.Time)*1000 + (x.Case-y.Case)*10 + x.Step - y.Step
		})
		if !slices.Equal(all, want) {
			t.Fatal(l, all, want)
		}
		late, _ := Late(office, people, steward, l, until)
		for n := range 6 {
			is := slices.Contains(Open(people, l, until), n) && slices.ContainsFunc(all, func(x api.Notice) bool { return x.Case == n && x.Step > 0 })
			if slices.Contains(late, n) != is || !slices.IsSorted(late) {
				t.Fatal(l, late)
			}
		}
	}
}
