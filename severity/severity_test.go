package severity

import (
	"math"
	"math/rand"
	"slices"
	"testing"

	"leakresponse/api"
	"leakresponse/rights"
)

var sample = api.Rights{Credentials: 2, Resources: 2, Grants: []api.Grant{{Credential: 0, Resource: 0, Right: 3}, {Credential: 1, Resource: 1, Right: 2}}, Mints: []api.Mint{{From: 1, To: 0}}}

// P31.1
func TestLevel(t *testing.T) {
	for score, want := range map[int]int{math.MinInt: 0, -1: 0, 0: 0, 1: 1, 99: 1, 100: 2, 999: 2, 1000: 3, 9999: 3, 10000: 4, math.MaxInt: 4} {
		if got := Level(score); got != want {
			t.Error(score, got)
		}
	}
}

// P31.1 and P31.2
func TestRate(t *testing.T) {
	bad := api.Rights{Credentials: -1}
	for i, c := range []struct {
		x          api.Rights
		worths     []int
		c, readers int
		public     bool
		want       api.Severity
		e          api.Errno
	}{
		{sample, []int{50, 7}, 0, 1, false, api.Severity{Level: 2, Worth: 150, Audience: 2, Score: 300}, 0}, {sample, []int{50, 7}, 1, 0, false, api.Severity{Level: 2, Worth: 164, Audience: 1, Score: 164}, 0}, {sample, []int{50, 7}, 1, 24, true, api.Severity{Level: 4, Worth: 164, Audience: 100, Score: 16400}, 0}, {sample, []int{0, 100}, 0, 24, true, api.Severity{Audience: 100}, 0}, {sample, []int{100, 0}, 0, 24, false, api.Severity{Level: 3, Worth: 300, Audience: 25, Score: 7500}, 0},
		{bad, nil, 9, -1, false, api.Severity{}, api.ErrRights}, {sample, []int{1}, 9, -1, false, api.Severity{}, api.ErrRange}, {sample, []int{1, 2, 3}, 0, 0, false, api.Severity{}, api.ErrRange}, {sample, []int{1, -1}, 9, 0, false, api.Severity{}, api.ErrRange}, {sample, []int{101, 1}, 9, 0, false, api.Severity{}, api.ErrRange}, {sample, []int{1, 1}, 2, -1, false, api.Severity{}, api.ErrMissing}, {sample, []int{1, 1}, -1, 99, false, api.Severity{}, api.ErrMissing}, {sample, []int{1, 1}, 0, -1, false, api.Severity{}, api.ErrRange}, {sample, []int{1, 1}, 0, 25, true, api.Severity{}, api.ErrRange},
	} {
		got, e := Rate(c.x, c.worths, c.c, c.readers, c.public)
		if got != c.want || e != c.e {
			t.Error(i, got, e)
		}
		worth, f := Worth(c.x, c.worths, c.c)
		if c.readers < 0 || c.readers > 24 {
			if f == api.OK {
				f = c.e
				worth = 0
			}
		}
		if worth != c.want.Worth || f != c.e {
			t.Error(i, worth, f)
		}
	}
}

// P31.1, against the power, and the consequence that more never makes it less.
func TestMore(t *testing.T) {
	r := rand.New(rand.NewSource(1))
	for range 300 {
		x := api.Rights{Credentials: 3, Resources: 3}
		worths := []int{r.Intn(101), r.Intn(101), r.Intn(101)}
		last := api.Severity{}
		for range 8 {
			switch r.Intn(3) {
			case 0:
				x.Grants = append(x.Grants, api.Grant{Credential: r.Intn(3), Resource: r.Intn(3), Right: 1 + r.Intn(3)})
			case 1:
				x.Stores = append(x.Stores, api.Store{Resource: r.Intn(3), Credential: r.Intn(3)})
			case 2:
				worths[r.Intn(3)] = api.MaxWorth
			}
			s, e := Rate(x, worths, 0, last.Audience%24, false)
			sum := 0
			for i, p := range rights.Power(x, 0) {
				sum += p * worths[i]
			}
			if e != api.OK || s.Worth != sum || s.Score != sum*s.Audience || s.Worth < last.Worth {
				t.Fatal(x, s, e)
			}
			last = s
		}
	}
}

// P31.2
func TestWorst(t *testing.T) {
	score := func(l ...int) []api.Severity {
		var out []api.Severity
		for _, n := range l {
			out = append(out, api.Severity{Score: n})
		}
		return out
	}
	for i, c := range []struct {
		l    []api.Severity
		n    int
		some bool
	}{{nil, 0, false}, {score(5), 0, true}, {score(1, 5, 5, 2), 1, true}, {score(-5, -7), 0, true}, {score(-7, -5), 1, true}, {slices.Repeat(score(0), 3), 0, true}} {
		if n, ok := Worst(c.l); n != c.n || ok != c.some {
			t.Error(i, n, ok)
		}
	}
}
