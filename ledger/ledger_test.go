package ledger

import (
	"math"
	"math/rand"
	"slices"
	"testing"

	"leakresponse/api"
)

func record(known, since, subject, value int) api.Record {
	return api.Record{Known: known, Since: since, Subject: subject, Value: value}
}

// P42.1
func TestCheck(t *testing.T) {
	end := api.MaxTime
	for i, c := range []struct {
		l  []api.Record
		ok bool
	}{
		{nil, true}, {[]api.Record{record(0, end, 15, 1000000), record(end, 0, 0, -1000000)}, true}, {make([]api.Record, 100), true}, {make([]api.Record, 101), false}, {[]api.Record{record(-1, 0, 0, 0)}, false}, {[]api.Record{record(end+1, 0, 0, 0)}, false}, {[]api.Record{record(5, 0, 0, 0), record(4, 0, 0, 0)}, false},
		{[]api.Record{record(0, -1, 0, 0)}, false}, {[]api.Record{record(0, end+1, 0, 0)}, false}, {[]api.Record{record(0, 0, 16, 0)}, false}, {[]api.Record{record(0, 0, -1, 0)}, false}, {[]api.Record{record(0, 0, 0, 1000001)}, false}, {[]api.Record{record(0, 0, 0, -1000001)}, false}, {[]api.Record{record(0, 0, 0, math.MinInt)}, false},
	} {
		e := Check(c.l)
		if (e == api.OK) != c.ok || e != api.OK && e != api.ErrLedger {
			t.Error(i, e)
		}
		if c.ok {
			continue
		}
		b, ok := Believe(c.l, end, 0, end)
		line, e1 := Line(c.l, end, 0)
		k, learned := Learned(c.l, 0, end, 0)
		changes, e2 := Changes(c.l, 0, end)
		more, e3 := Append(c.l, record(end, 0, 0, 0))
		if b != (api.Belief{Record: -1}) || ok || learned || k+len(line)+len(changes)+len(more) > 0 || e1 != api.ErrLedger || e2 != api.ErrLedger || e3 != api.ErrLedger {
			t.Error(i, "something of a ledger that is not valid")
		}
	}
}

// P42.1 and P42.2: the example.
func TestExample(t *testing.T) {
	l := []api.Record{record(5, 3, 0, 1), record(9, 2, 0, 7)}
	for _, c := range []struct{ k, t, value, record int }{{5, 4, 1, 0}, {9, 4, 1, 0}, {5, 2, 0, -1}, {9, 2, 7, 1}, {4, 4, 0, -1}, {9, 1, 0, -1}, {math.MaxInt, math.MaxInt, 1, 0}, {math.MinInt, 4, 0, -1}} {
		if b, ok := Believe(l, c.k, 0, c.t); b != (api.Belief{Value: c.value, Record: c.record}) || ok != (c.record >= 0) {
			t.Error(c, b, ok)
		}
	}
	for _, c := range [][5]int{{0, 4, 1, 5, 1}, {0, 2, 7, 9, 1}, {0, 4, 7, 0, 0}, {1, 4, 1, 0, 0}, {16, 4, 1, 0, 0}, {-1, 4, 0, 0, 0}} {
		if k, ok := Learned(l, c[0], c[1], c[2]); k != c[3] || ok != (c[4] == 1) {
			t.Error(c, k, ok)
		}
	}
	if line, e := Line(l, 9, 0); e != api.OK || !slices.Equal(line, []api.Record{l[1], l[0]}) {
		t.Error(line, e)
	}
	if line, e := Line(l, 9, 99); e != api.OK || len(line) > 0 {
		t.Error(line, e)
	}
}

// P42.1 and P42.2, against all records one by one.
func TestAgainstSlow(t *testing.T) {
	r := rand.New(rand.NewSource(1))
	for range 500 {
		var l []api.Record
		at := 0
		for range r.Intn(12) {
			at += r.Intn(3)
			l = append(l, record(at, r.Intn(5), r.Intn(2), r.Intn(3)))
		}
		believe := func(k, when int) int {
			best := -1
			for i, x := range l {
				if x.Known <= k && x.Subject == 1 && x.Since <= when && (best < 0 || x.Since >= l[best].Since) {
					best = i
				}
			}
			return best
		}
		for when := -1; when < 7; when++ {
			var changes []api.Belief
			last := -1
			learned := map[int]int{}
			for k := 0; k <= at+1; k++ {
				n := believe(k, when)
				b, ok := Believe(l, k, 1, when)
				if ok != (n >= 0) || b.Record != n || ok && b.Value != l[n].Value {
					t.Fatal(l, k, when, b)
				}
				if n != last {
					changes = append(changes, b)
					last = n
				}
				if _, seen := learned[b.Value]; ok && !seen {
					learned[b.Value] = k
				}
			}
			if got, e := Changes(l, 1, when); e != api.OK || !slices.Equal(got, changes) {
				t.Fatal(l, when, got, changes)
			}
			for value := range 4 {
				want, seen := learned[value]
				if k, ok := Learned(l, 1, when, value); ok != seen || k != want {
					t.Fatal(l, when, value, k)
				}
			}
		}
		k := r.Intn(at + 2)
		var want []api.Record
		last := -1
		for when := range 6 {
			if n := believe(k, when); n != last {
				want = append(want, l[n])
				last = n
			}
		}
		if got, e := Line(l, k, 1); e != api.OK || !slices.Equal(got, want) {
			t.Fatal(l, k, got, want)
		}
	}
}

// P42.2
func TestAppend(t *testing.T) {
	l := append(make([]api.Record, 0, 9), record(5, 3, 0, 1))
	a, e := Append(l, record(5, 1, 2, 3))
	b, f := Append(l, record(6, 1, 2, 4))
	if e != api.OK || f != api.OK || !slices.Equal(a, []api.Record{l[0], record(5, 1, 2, 3)}) || !slices.Equal(b, []api.Record{l[0], record(6, 1, 2, 4)}) {
		t.Error(a, b, e, f)
	}
	a[0].Value = 99
	if l[0].Value != 1 || l[:2][1] != (api.Record{}) {
		t.Error("shared memory")
	}
	if a, e := Append(nil, record(0, 0, 0, 0)); e != api.OK || len(a) != 1 {
		t.Error(e)
	}
	for i, c := range []struct {
		l []api.Record
		r api.Record
		e api.Errno
	}{{l, record(4, 0, 0, 0), api.ErrLedger}, {l, record(5, 0, 16, 0), api.ErrLedger}, {make([]api.Record, 100), record(0, 0, 16, 0), api.ErrLimit}, {make([]api.Record, 99), record(0, 0, 0, 0), 0}} {
		if a, e := Append(c.l, c.r); e != c.e || e != api.OK && len(a) > 0 {
			t.Error(i, e)
		}
	}
}
