package access

import (
	"math"
	"math/rand"
	"slices"
	"testing"

	"leakresponse/api"
)

func event(t, kind, place int) api.Access { return api.Access{Time: t, Kind: kind, Place: place} }

func grant(t, place, p int) api.Access {
	return api.Access{Time: t, Kind: api.AccessGrant, Place: place, Principal: p}
}

func revoke(t, place, p int) api.Access {
	return api.Access{Time: t, Kind: api.AccessRevoke, Place: place, Principal: p}
}

func link(t, place, until int) api.Access {
	return api.Access{Time: t, Kind: api.AccessLink, Place: place, Until: until}
}

func estate(l ...api.Access) api.Estate { return api.Estate{Places: 3, Events: l} }

func with(x api.Access, f func(x *api.Access)) api.Access {
	f(&x)
	return x
}

// P27.1
func TestCheck(t *testing.T) {
	put := api.Access{Kind: api.AccessPut, Place: 1, Content: 63}
	remove := api.Access{Kind: api.AccessRemove, Place: 1, Content: 63}
	copied := api.Access{Kind: api.AccessCopy, Place: 1, From: 2}
	good := []api.Access{grant(0, 2, 23), revoke(0, 2, 23), link(0, 2, 1), event(0, api.AccessUnlink, 2), put, remove, copied}
	for i, c := range []struct {
		a  api.Estate
		ok bool
	}{
		{api.Estate{Places: 1}, true}, {api.Estate{Places: 16}, true}, {api.Estate{}, false}, {api.Estate{Places: 17}, false}, {api.Estate{Places: -1}, false}, {estate(good...), true}, {estate(slices.Repeat(good[:1], 120)...), true}, {estate(slices.Repeat(good[:1], 121)...), false},
		{estate(event(0, 0, 0)), false}, {estate(event(0, 8, 0)), false}, {estate(grant(0, 3, 0)), false}, {estate(grant(0, -1, 0)), false}, {estate(grant(-1, 0, 0)), false}, {estate(grant(api.MaxTime, 0, 0)), true}, {estate(grant(api.MaxTime+1, 0, 0)), false}, {estate(grant(5, 0, 0), grant(4, 0, 0)), false}, {estate(grant(5, 0, 0), grant(5, 0, 0)), true},
		{estate(grant(0, 0, 24)), false}, {estate(revoke(0, 0, -1)), false}, {estate(revoke(0, 0, 24)), false}, {estate(link(5, 0, 5)), false}, {estate(link(5, 0, 6)), true}, {estate(link(5, 0, api.MaxTime)), true}, {estate(link(5, 0, api.MaxTime+1)), false},
		{estate(with(put, func(x *api.Access) { x.Content = 64 })), false}, {estate(with(remove, func(x *api.Access) { x.Content = -1 })), false}, {estate(with(copied, func(x *api.Access) { x.From = 1 })), false}, {estate(with(copied, func(x *api.Access) { x.From = 3 })), false}, {estate(with(copied, func(x *api.Access) { x.From = -1 })), false},
	} {
		e := Check(c.a)
		if (e == api.OK) != c.ok || e != api.OK && e != api.ErrAccess {
			t.Error(i, e)
		}
		n, ok := Grant(c.a, 0, 0, 99)
		m, ok2 := Linked(c.a, 0, 5)
		if !c.ok && (len(Granted(c.a, 0, 99))+len(Times(c.a))+n+m > 0 || ok || ok2) {
			t.Error(i, "something of an estate that is not valid")
		}
	}
	// Fields that a kind does not have.
	fields := []func(x *api.Access){func(x *api.Access) { x.Principal = 1 }, func(x *api.Access) { x.Until = 9 }, func(x *api.Access) { x.Content = 1 }, func(x *api.Access) { x.From = 2 }}
	has := map[int]int{api.AccessGrant: 0, api.AccessRevoke: 0, api.AccessLink: 1, api.AccessUnlink: -1, api.AccessPut: 2, api.AccessRemove: 2, api.AccessCopy: 3}
	for _, x := range good {
		x.Place = 0
		for k, f := range fields {
			if e := Check(estate(with(x, f))); (e == api.OK) != (has[x.Kind] == k) {
				t.Error(x.Kind, k, e)
			}
		}
	}
}

// P27.2
func TestGranted(t *testing.T) {
	r := rand.New(rand.NewSource(1))
	for range 500 {
		var l []api.Access
		at := 0
		for range r.Intn(15) {
			at += r.Intn(2)
			place := r.Intn(3)
			l = append(l, []api.Access{grant(at, place, r.Intn(3)), revoke(at, place, r.Intn(3)), link(at, place, at+1+r.Intn(4)), event(at, api.AccessUnlink, place)}[r.Intn(4)])
		}
		a := estate(l...)
		var times []int
		for when := -1; when < at+6; when++ {
			if slices.ContainsFunc(l, func(x api.Access) bool { return x.Time == when }) {
				times = append(times, when)
			}
			for place := range 3 {
				var granted []int
				for p := range 3 {
					last, is := 0, false
					for i, x := range l {
						if x.Time <= when && x.Place == place && x.Principal == p && x.Kind <= api.AccessRevoke {
							last, is = i, x.Kind == api.AccessGrant
						}
					}
					if !is {
						last = 0
					} else {
						granted = append(granted, p)
					}
					if n, ok := Grant(a, place, p, when); n != last || ok != is {
						t.Fatal(l, when, place, p, n, ok)
					}
				}
				if got := Granted(a, place, when); !slices.Equal(got, granted) {
					t.Fatal(l, when, place, got)
				}
				last, open := 0, false
				for i, x := range l {
					is := x.Kind == api.AccessLink && x.Place == place && x.Time <= when && x.Until > when
					for _, y := range l[i+1:] {
						is = is && !(y.Kind == api.AccessUnlink && y.Place == place && y.Time <= when)
					}
					if is {
						last, open = i, true
					}
				}
				if n, ok := Linked(a, place, when); n != last || ok != open {
					t.Fatal(l, when, place, n, ok)
				}
			}
		}
		if !slices.Equal(Times(a), times) {
			t.Fatal(l, Times(a))
		}
	}
}

// P27.2
func TestExamples(t *testing.T) {
	a := estate(grant(1, 0, 7), link(5, 0, 8))
	for at, want := range map[int]bool{4: false, 5: true, 6: true, 7: true, 8: false, math.MinInt: false, math.MaxInt: false} {
		if _, ok := Linked(a, 0, at); ok != want {
			t.Error(at)
		}
	}
	for _, place := range []int{-1, 3} {
		n, ok := Grant(a, place, 7, 9)
		m, ok2 := Linked(a, place, 6)
		if len(Granted(a, place, 9)) > 0 || n+m != 0 || ok || ok2 {
			t.Error(place)
		}
	}
	for _, p := range []int{-1, 24, 6} {
		if n, ok := Grant(a, 0, p, 9); n != 0 || ok {
			t.Error(p)
		}
	}
	// A longer link in front of a shorter one.
	a = estate(link(0, 0, 9), link(1, 0, 3))
	if n, ok := Linked(a, 0, 2); n != 1 || !ok {
		t.Error(n, ok)
	}
	if n, ok := Linked(a, 0, 3); n != 0 || !ok {
		t.Error(n, ok)
	}
}
