package calendar

import (
	"math"
	"math/rand"
	"slices"
	"testing"

	"leakresponse/api"
)

var usual = api.Calendar{Day: 24, From: 8, To: 16, Week: 31}

func with(f func(c *api.Calendar)) api.Calendar {
	c := usual
	f(&c)
	return c
}

// P40.1
func TestCheck(t *testing.T) {
	var days []int
	for i := range 41 {
		days = append(days, 2*i)
	}
	for i, c := range []struct {
		c  api.Calendar
		ok bool
	}{
		{usual, true}, {api.Calendar{}, false}, {api.Calendar{Day: 1, To: 1}, true}, {with(func(c *api.Calendar) { c.Day = 48 }), true}, {with(func(c *api.Calendar) { c.Day = 49 }), false}, {with(func(c *api.Calendar) { c.Day = 15 }), false}, {with(func(c *api.Calendar) { c.Day = 16 }), true}, {with(func(c *api.Calendar) { c.From = -1 }), false}, {with(func(c *api.Calendar) { c.From = 16 }), false}, {with(func(c *api.Calendar) { c.From = 17 }), false},
		{with(func(c *api.Calendar) { c.Week = 127 }), true}, {with(func(c *api.Calendar) { c.Week = 0 }), true}, {with(func(c *api.Calendar) { c.Week = 128 }), false}, {with(func(c *api.Calendar) { c.Week = -1 }), false},
		{with(func(c *api.Calendar) { c.Holidays = days[:40] }), true}, {with(func(c *api.Calendar) { c.Holidays = days }), false}, {with(func(c *api.Calendar) { c.Holidays = []int{0, math.MaxInt} }), true}, {with(func(c *api.Calendar) { c.Holidays = []int{-1} }), false}, {with(func(c *api.Calendar) { c.Holidays = []int{3, 3} }), false}, {with(func(c *api.Calendar) { c.Holidays = []int{4, 3} }), false},
	} {
		e := Check(c.c)
		if (e == api.OK) != c.ok || e != api.OK && e != api.ErrCalendar {
			t.Error(i, e)
		}
		if c.ok {
			continue
		}
		a, e1 := Between(c.c, -1, -2)
		b, e2 := Add(c.c, -1, -1)
		d, e3 := Next(c.c, -1)
		if e1 != api.ErrCalendar || e2 != api.ErrCalendar || e3 != api.ErrCalendar || a+b+d != 0 || Working(c.c, 9) {
			t.Error(i)
		}
	}
	c := with(func(c *api.Calendar) { c.Holidays = []int{1, 8} })
	for at, want := range map[int]bool{7: false, 8: true, 15: true, 16: false, 24 + 9: false, 48 + 9: true, 4*24 + 9: true, 5*24 + 9: false, 6*24 + 9: false, 7*24 + 9: true, 8*24 + 9: false, 9*24 + 9: true, -1: false, api.MaxTime + 1: false} {
		if Working(c, at) != want {
			t.Error(at)
		}
	}
}

// P40.2
func TestErrors(t *testing.T) {
	never := with(func(c *api.Calendar) { c.Week = 0 })
	always := api.Calendar{Day: 1, To: 1, Week: 127}
	for i, c := range []struct {
		a, b int
		e    api.Errno
	}{{-1, 5, api.ErrRange}, {0, -1, api.ErrRange}, {6, 5, api.ErrRange}, {0, api.MaxTime + 1, api.ErrRange}, {api.MaxTime + 1, api.MaxTime + 1, api.ErrRange}, {0, 100001, api.ErrLimit}, {0, 100000, 0}, {api.MaxTime, api.MaxTime, 0}, {math.MinInt, math.MaxInt, api.ErrRange}} {
		if n, e := Between(always, c.a, c.b); e != c.e || e == api.OK && n != c.b-c.a || e != api.OK && n != 0 {
			t.Error(i, n, e)
		}
	}
	for i, c := range []struct {
		c          api.Calendar
		t, n, want int
		e          api.Errno
	}{{always, -1, 0, 0, api.ErrRange}, {always, api.MaxTime + 1, 0, 0, api.ErrRange}, {always, 0, -1, 0, api.ErrRange}, {always, 0, 1001, 0, api.ErrRange}, {always, 5, 1000, 1005, 0}, {never, 5, 0, 5, 0}, {never, 5, 1, 0, api.ErrOpen}, {always, api.MaxTime, 0, api.MaxTime, 0}, {always, api.MaxTime, 1, 0, api.ErrOpen}, {always, api.MaxTime - 1, 1, api.MaxTime, 0}} {
		if u, e := Add(c.c, c.t, c.n); u != c.want || e != c.e {
			t.Error(i, u, e)
		}
	}
	for i, c := range []struct {
		c       api.Calendar
		t, want int
		e       api.Errno
	}{{always, -1, 0, api.ErrRange}, {always, api.MaxTime + 1, 0, api.ErrRange}, {always, api.MaxTime, api.MaxTime, 0}, {never, 0, 0, api.ErrOpen}, {never, api.MaxTime, 0, api.ErrOpen}} {
		if u, e := Next(c.c, c.t); u != c.want || e != c.e {
			t.Error(i, u, e)
		}
	}
	// One working tick a week, but for 40 holidays.
	far := api.Calendar{Day: 48, From: 0, To: 1, Week: 1}
	for i := range 40 {
		far.Holidays = append(far.Holidays, 7*i)
	}
	if u, e := Next(far, 0); u != 48*7*40 || e != api.OK {
		t.Error(u, e)
	}
	last := 48 * 7 * (40 + 257) // the last working tick that is not behind 100000
	if u, e := Add(far, 0, 258); u != last+1 || e != api.OK {
		t.Error(u, e)
	}
	if _, e := Add(far, 0, 259); e != api.ErrOpen {
		t.Error(e)
	}
}

// P40.2: a tick that is exactly 100000 ticks away, and one more.
func TestHorizon(t *testing.T) {
	c := api.Calendar{Day: 48, From: 0, To: 1, Week: 1} // every tick that is a multiple of 336
	if u, e := Add(c, 129, 298); u != 100129 || e != api.OK {
		t.Error(u, e)
	}
	if u, e := Add(c, 128, 298); u != 0 || e != api.ErrOpen {
		t.Error(u, e)
	}
}

// P40.2, tick by tick, and the consequences.
func TestAdd(t *testing.T) {
	r := rand.New(rand.NewSource(1))
	for range 300 {
		c := api.Calendar{Day: 1 + r.Intn(12), Week: 1 + r.Intn(127)}
		c.From = r.Intn(c.Day)
		c.To = c.From + 1 + r.Intn(c.Day-c.From)
		for day := range 20 {
			if r.Intn(4) == 0 {
				c.Holidays = append(c.Holidays, day)
			}
		}
		for range 20 {
			from, n := r.Intn(100), r.Intn(20)
			u, e := Add(c, from, n)
			count, f := Between(c, from, u)
			if e != api.OK || f != api.OK || count != n || n > 0 && !Working(c, u-1) || n == 0 && u != from {
				t.Fatal(c, from, n, u)
			}
			slow := 0
			for at := from; at < u; at++ {
				if at%c.Day >= c.From && at%c.Day < c.To && c.Week>>(at/c.Day%7)&1 == 1 && !slices.Contains(c.Holidays, at/c.Day) {
					slow++
				}
			}
			if slow != n {
				t.Fatal(c, from, u)
			}
			m := r.Intn(20)
			v, _ := Add(c, u, m)
			if w, _ := Add(c, from, n+m); w != v {
				t.Fatal(c, from, n, m)
			}
			next, _ := Next(c, from)
			if one, _ := Add(c, from, 1); one != next+1 || !Working(c, next) {
				t.Fatal(c, from, next)
			}
		}
	}
	if u, e := Add(with(func(c *api.Calendar) { c.Week = 127 }), 15, 2); u != 33 || e != api.OK {
		t.Error(u, e)
	}
}
