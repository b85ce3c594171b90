package registry

import (
	"math"
	"math/rand"
	"slices"
	"strings"
	"testing"

	"leakresponse/api"
)

func cred(issuer, holder, from, until int) api.Credential {
	return api.Credential{Issuer: issuer, Holder: holder, From: from, Until: until, Fingerprint: uint64(from)}
}

var issuers = []api.Issuer{{Name: "one", Slots: 1}, {Name: "two", Slots: 2}}

func reg(l ...api.Credential) api.Registry {
	return api.Registry{Issuers: issuers, Credentials: l}
}

func same(a, b api.Registry) bool {
	return slices.Equal(a.Issuers, b.Issuers) && slices.Equal(a.Credentials, b.Credentials)
}

// P24.1
func TestCheck(t *testing.T) {
	var many []api.Credential
	for i := range 25 {
		many = append(many, cred(0, 0, i, i+1))
	}
	name := func(s string, slots int) api.Registry {
		return api.Registry{Issuers: []api.Issuer{{Name: s, Slots: slots}}}
	}
	for i, c := range []struct {
		r  api.Registry
		ok bool
	}{
		{api.Registry{}, true}, {reg(), true}, {name("a", 1), true}, {name(strings.Repeat("z", 40), 2), true}, {name(strings.Repeat("z", 41), 2), false}, {name("", 1), false}, {name("A", 1), false}, {name("a1", 1), false}, {name("a\xff", 1), false}, {name("ä", 1), false}, {name("a", 0), false}, {name("a", 3), false},
		{api.Registry{Issuers: slices.Repeat(issuers, 4)}, true}, {api.Registry{Issuers: append(slices.Repeat(issuers, 4), issuers[0])}, false}, {reg(many[:24]...), true}, {reg(many...), false},
		{reg(cred(2, 0, 0, 1)), false}, {reg(cred(-1, 0, 0, 1)), false}, {reg(cred(0, 23, 0, 1)), true}, {reg(cred(0, 24, 0, 1)), false}, {reg(cred(0, -1, 0, 1)), false}, {reg(cred(0, 0, -1, 1)), false}, {reg(cred(0, 0, 5, 5)), false}, {reg(cred(0, 0, 5, 4)), false}, {reg(cred(0, 0, api.MaxTime, api.MaxTime+1)), true}, {reg(cred(0, 0, 0, api.MaxTime+2)), false},
		{reg(cred(0, 0, 0, 10), cred(0, 0, 10, 20)), true}, {reg(cred(0, 0, 0, 10), cred(0, 0, 9, 20)), false}, {reg(cred(0, 0, 9, 20), cred(0, 0, 0, 10)), false}, {reg(cred(0, 0, 0, 10), cred(0, 1, 9, 20), cred(1, 0, 0, 10)), true},
		{reg(cred(1, 0, 0, 10), cred(1, 0, 5, 15), cred(1, 0, 10, 20)), true}, {reg(cred(1, 0, 0, 11), cred(1, 0, 5, 15), cred(1, 0, 10, 20)), false},
	} {
		e := Check(c.r)
		if (e == api.OK) != c.ok || e != api.OK && e != api.ErrRegistry {
			t.Error(i, e)
		}
		if c.ok {
			continue
		}
		from, until, ok := Overlap(c.r, 0, 0)
		x, n, e1 := Issue(c.r, cred(0, 5, 0, 1))
		y, e2 := Revoke(c.r, 0, 99)
		if from+until+n+len(Held(c.r, 0, 0, 0))+Room(c.r, 0, 0, 0)+len(Find(c.r, 0)) > 0 || ok || Valid(c.r, 0, 0) || e1 != api.ErrRegistry || e2 != api.ErrRegistry || !same(x, y) || !same(x, api.Registry{}) {
			t.Error(i, "something of a registry that is not valid")
		}
	}
}

// P24.2
func TestHeld(t *testing.T) {
	r := reg(cred(1, 3, 0, 10), cred(1, 3, 5, 15), cred(0, 3, 5, 6), cred(1, 4, 5, 20))
	for at := -1; at < 22; at++ {
		var held []int
		for i, c := range r.Credentials {
			is := c.From <= at && at < c.Until
			if Valid(r, i, at) != is {
				t.Error(i, at)
			}
			if is && c.Issuer == 1 && c.Holder == 3 {
				held = append(held, i)
			}
		}
		if !slices.Equal(Held(r, 1, 3, at), held) || Room(r, 1, 3, at) != 2-len(held) {
			t.Error(at, Held(r, 1, 3, at))
		}
	}
	if Valid(r, -1, 0) || Valid(r, 4, 0) || len(Held(r, 2, 3, 5)) > 0 || Room(r, 2, 3, 5) != 0 || Room(r, -1, 3, 5) != 0 || Room(r, 0, 7, 5) != 1 || Room(r, 0, 3, 5) != 0 {
		t.Error("what does not exist")
	}
	if !slices.Equal(Find(r, 5), []int{1, 2, 3}) || len(Find(r, 7)) > 0 {
		t.Error(Find(r, 5))
	}
	for _, c := range [][5]int{{0, 1, 5, 10, 1}, {1, 0, 5, 10, 1}, {0, 2, 5, 6, 1}, {2, 2, 5, 6, 1}, {0, 4, 0, 0, 0}, {-1, 0, 0, 0, 0}} {
		from, until, ok := Overlap(r, c[0], c[1])
		if from != c[2] || until != c[3] || ok != (c[4] == 1) {
			t.Error(c, from, until, ok)
		}
	}
	if from, until, ok := Overlap(reg(cred(0, 0, 0, 5), cred(0, 0, 5, 9)), 0, 1); from != 0 || until != 0 || ok {
		t.Error("no overlap")
	}
}

// P24.3
func TestIssue(t *testing.T) {
	r := rand.New(rand.NewSource(1))
	for range 500 {
		x := reg()
		for range 8 {
			c := cred(r.Intn(2), r.Intn(2), r.Intn(20), r.Intn(30))
			room := c.From < c.Until
			for at := c.From; at < c.Until; at++ {
				room = room && Room(x, c.Issuer, c.Holder, at) > 0
			}
			before := reg(slices.Clone(x.Credentials)...)
			y, n, e := Issue(x, c)
			if (e == api.OK) != room || e != api.OK && (e != api.ErrRegistry || n != 0 || !same(y, api.Registry{})) {
				t.Fatal(x, c, e)
			}
			if e == api.OK {
				if n != len(x.Credentials) || y.Credentials[n] != c || !slices.Equal(y.Credentials[:n], x.Credentials) || !slices.Equal(y.Issuers, issuers) {
					t.Fatal(x, c, n)
				}
				x = y
			}
			if e != api.OK && !same(x, before) {
				t.Fatal("changed")
			}
		}
	}
	var many []api.Credential
	for i := range 24 {
		many = append(many, cred(0, 0, i, i+1))
	}
	if _, _, e := Issue(reg(many...), cred(9, 9, 9, 9)); e != api.ErrLimit {
		t.Error(e)
	}
	x := reg(make([]api.Credential, 0, 4)...)
	a, _, _ := Issue(x, cred(0, 0, 0, 5))
	b, _, _ := Issue(x, cred(0, 1, 0, 5))
	a.Issuers[0].Slots = 2
	if a.Credentials[0].Holder != 0 || b.Credentials[0].Holder != 1 || issuers[0].Slots != 1 {
		t.Error("shared memory")
	}
}

// P24.3
func TestRevoke(t *testing.T) {
	r := reg(cred(0, 0, 5, 10), cred(0, 0, 10, 20))
	for _, c := range []struct {
		n, t, until int
		e           api.Errno
	}{{0, 6, 6, 0}, {0, 9, 9, 0}, {0, 10, 10, 0}, {0, 99, 10, 0}, {0, math.MaxInt, 10, 0}, {0, 5, 0, api.ErrRange}, {0, -1, 0, api.ErrRange}, {0, math.MinInt, 0, api.ErrRange}, {2, 0, 0, api.ErrMissing}, {-1, 7, 0, api.ErrMissing}} {
		x, e := Revoke(r, c.n, c.t)
		if e != c.e || e == api.OK && (x.Credentials[0].Until != c.until || x.Credentials[1] != r.Credentials[1] || r.Credentials[0].Until != 10) || e != api.OK && !same(x, api.Registry{}) {
			t.Error(c, x, e)
		}
		if e == api.OK && Valid(x, 0, c.t) {
			t.Error(c)
		}
	}
}
