package rights

import (
	"math/rand"
	"slices"
	"testing"

	"leakresponse/api"
)

func grant(c, r, right int) api.Grant {
	return api.Grant{Credential: c, Resource: r, Right: right}
}

func of(credentials, resources int, g []api.Grant, s []api.Store, m []api.Mint) api.Rights {
	return api.Rights{Credentials: credentials, Resources: resources, Grants: g, Stores: s, Mints: m}
}

// P25.1
func TestCheck(t *testing.T) {
	g := []api.Grant{grant(1, 1, 1)}
	s := []api.Store{{Resource: 1, Credential: 1}}
	m := []api.Mint{{From: 1, To: 0}}
	for i, c := range []struct {
		x  api.Rights
		ok bool
	}{
		{api.Rights{}, true}, {api.Rights{Credentials: 24, Resources: 24}, true}, {api.Rights{Credentials: 25}, false}, {api.Rights{Resources: 25}, false}, {api.Rights{Credentials: -1}, false}, {api.Rights{Resources: -1}, false},
		{of(2, 2, g, s, m), true}, {of(1, 2, g, nil, nil), false}, {of(2, 1, g, nil, nil), false}, {of(1, 2, nil, s, nil), false}, {of(2, 1, nil, s, nil), false}, {of(1, 2, nil, nil, m), false}, {of(1, 1, nil, nil, []api.Mint{{From: 0, To: 1}}), false}, {of(1, 1, nil, nil, []api.Mint{{From: 0, To: -1}}), false},
		{of(2, 2, []api.Grant{grant(0, 0, 0)}, nil, nil), false}, {of(2, 2, []api.Grant{grant(0, 0, 4)}, nil, nil), false}, {of(2, 2, []api.Grant{grant(0, 0, 3)}, nil, nil), true}, {of(2, 2, []api.Grant{grant(-1, 0, 3)}, nil, nil), false}, {of(2, 2, []api.Grant{grant(0, -1, 3)}, nil, nil), false},
		{of(2, 2, slices.Repeat(g, 100), slices.Repeat(s, 100), slices.Repeat(m, 100)), true}, {of(2, 2, slices.Repeat(g, 101), nil, nil), false}, {of(2, 2, nil, slices.Repeat(s, 101), nil), false}, {of(2, 2, nil, nil, slices.Repeat(m, 101)), false},
	} {
		e := Check(c.x)
		if (e == api.OK) != c.ok || e != api.OK && e != api.ErrRights {
			t.Error(i, e)
		}
		why, ok := Why(c.x, 0, 0)
		if !c.ok && (len(Reach(c.x, 0))+len(Power(c.x, 0))+len(why)+len(Bound(c.x, []int{0})) > 0 || ok || Closed(c.x, []int{0}) || Proves(c.x, 0, 0, 1, []api.Link{{Kind: api.LinkGrant, Store: -1, Mint: -1}})) {
			t.Error(i, "something of rights that are not valid")
		}
	}
	x := of(2, 2, slices.Repeat([]api.Grant{grant(0, 0, 1)}, 1), nil, nil)
	chain := []api.Link{{Kind: api.LinkGrant, Store: -1, Mint: -1}}
	if !Proves(x, 0, 0, 1, chain) {
		t.Error("Proves")
	}
	for _, n := range []int{-1, 2} {
		a, ok1 := Why(x, n, 0)
		b, ok2 := Why(x, 0, n)
		if len(a)+len(b)+len(Reach(x, n))+len(Power(x, n))+len(Bound(x, []int{n})) > 0 || ok1 || ok2 || Closed(x, []int{n}) || Proves(x, n, 0, 1, chain) || Proves(x, 0, n, 1, chain) {
			t.Error(n)
		}
	}
}

// slowReach is the least set with c that no link leads out of.
func slowReach(x api.Rights, c int) []bool {
	in := make([]bool, x.Credentials)
	in[c] = true
	for again := true; again; {
		again = false
		see := func(from, to int) {
			if in[from] && !in[to] {
				in[to], again = true, true
			}
		}
		for _, m := range x.Mints {
			see(m.From, m.To)
		}
		for _, g := range x.Grants {
			for _, s := range x.Stores {
				if g.Resource == s.Resource {
					see(g.Credential, s.Credential)
				}
			}
		}
	}
	return in
}

func random(r *rand.Rand) api.Rights {
	x := api.Rights{Credentials: 5, Resources: 4}
	for range r.Intn(6) {
		x.Grants = append(x.Grants, grant(r.Intn(5), r.Intn(4), 1+r.Intn(3)))
	}
	for range r.Intn(5) {
		x.Stores = append(x.Stores, api.Store{Resource: r.Intn(4), Credential: r.Intn(5)})
	}
	for range r.Intn(4) {
		x.Mints = append(x.Mints, api.Mint{From: r.Intn(5), To: r.Intn(5)})
	}
	return x
}

// P25.2 and P25.3
func TestReach(t *testing.T) {
	r := rand.New(rand.NewSource(1))
	for range 500 {
		x := random(r)
		for c := range 5 {
			in := slowReach(x, c)
			var reach []int
			power := make([]int, 4)
			for k, is := range in {
				if is {
					reach = append(reach, k)
				}
			}
			for _, g := range x.Grants {
				if in[g.Credential] {
					power[g.Resource] = max(power[g.Resource], g.Right)
				}
			}
			if !slices.Equal(Reach(x, c), reach) || !slices.Equal(Power(x, c), power) || !slices.Equal(Bound(x, reach), power) {
				t.Fatal(x, c)
			}
			for resource := range 4 {
				chain, ok := Why(x, c, resource)
				if ok != (power[resource] > 0) || !ok && len(chain) > 0 {
					t.Fatal(x, c, resource)
				}
				for right := range 6 {
					if Proves(x, c, resource, right-1, chain) != (right > 1 && right-1 <= power[resource]) {
						t.Fatal(x, c, resource, right-1, chain)
					}
				}
			}
		}
		for bits := range 32 {
			var set []int
			closed := bits > 0
			for c := range 5 {
				if bits>>c&1 == 1 {
					set = append(set, c)
					for k, is := range slowReach(x, c) {
						closed = closed && (!is || bits>>k&1 == 1)
					}
				}
			}
			if Closed(x, set) != closed || (len(Bound(x, set)) == 4) != closed {
				t.Fatal(x, set)
			}
		}
	}
}

// P25.3
func TestProves(t *testing.T) {
	x := of(3, 2, []api.Grant{grant(0, 0, 1), grant(1, 1, 3), grant(2, 1, 2)}, []api.Store{{Resource: 0, Credential: 1}}, []api.Mint{{From: 1, To: 2}, {From: 0, To: 0}})
	if !slices.Equal(Power(x, 0), []int{1, 3}) {
		t.Error(Power(x, 0))
	}
	store := api.Link{Kind: api.LinkStore, Grant: 0, Store: 0, Mint: -1}
	mint := api.Link{Kind: api.LinkMint, Grant: -1, Store: -1, Mint: 0}
	self := api.Link{Kind: api.LinkMint, Grant: -1, Store: -1, Mint: 1}
	end := func(n int) api.Link { return api.Link{Kind: api.LinkGrant, Grant: n, Store: -1, Mint: -1} }
	for i, c := range []struct {
		c, resource, right int
		chain              []api.Link
		want               bool
	}{
		{0, 1, 3, []api.Link{store, end(1)}, true}, {0, 1, 3, []api.Link{self, self, store, end(1)}, true}, {0, 1, 2, []api.Link{store, mint, end(2)}, true}, {0, 1, 3, []api.Link{store, mint, end(2)}, false}, {0, 0, 1, []api.Link{end(0)}, true}, {0, 0, 2, []api.Link{end(0)}, false},
		{0, 1, 1, nil, false}, {0, 1, 1, []api.Link{store}, false}, {0, 1, 1, []api.Link{end(1)}, false}, {1, 1, 1, []api.Link{end(1)}, true}, {1, 1, 3, []api.Link{store, end(1)}, false}, {0, 0, 1, []api.Link{store, end(1)}, false}, {0, 1, 1, []api.Link{mint, end(2)}, false}, {0, 0, 1, []api.Link{end(0), end(0)}, false},
		{0, 0, 0, []api.Link{end(0)}, false}, {0, 0, 4, []api.Link{end(0)}, false}, {0, 0, 1, []api.Link{end(3)}, false}, {0, 0, 1, []api.Link{end(-1)}, false}, {0, 0, 1, []api.Link{{Kind: api.LinkGrant}}, false}, {0, 0, 1, []api.Link{{Kind: api.LinkGrant, Store: -1}}, false}, {0, 0, 1, []api.Link{{Kind: api.LinkGrant, Mint: -1}}, false},
		{0, 1, 1, []api.Link{{Kind: api.LinkStore}, end(1)}, false}, {1, 1, 1, []api.Link{{Kind: api.LinkMint, Store: -1}, end(2)}, false}, {1, 1, 1, []api.Link{{Kind: api.LinkMint, Grant: -1, Store: -1, Mint: 2}, end(2)}, false}, {0, 1, 1, []api.Link{{Kind: 4, Grant: -1, Store: -1, Mint: -1}, end(1)}, false}, {0, 0, 1, []api.Link{{Kind: 0, Grant: 0, Store: -1, Mint: -1}}, false},
	} {
		if Proves(x, c.c, c.resource, c.right, c.chain) != c.want {
			t.Error(i)
		}
	}
	for _, set := range [][]int{nil, {2, 1}, {1, 1, 2}, {0, 1}, {1}} {
		if Closed(x, set) || len(Bound(x, set)) > 0 {
			t.Error(set)
		}
	}
	if !slices.Equal(Bound(x, []int{1, 2}), []int{0, 3}) {
		t.Error(Bound(x, []int{1, 2}))
	}
}

// P25.3: two chains that go on from one.
func TestBranches(t *testing.T) {
	mint := func(from, to int) api.Mint { return api.Mint{From: from, To: to} }
	x := of(6, 2, []api.Grant{grant(4, 0, 1), grant(5, 1, 1)}, nil, []api.Mint{mint(0, 1), mint(1, 2), mint(2, 3), mint(3, 4), mint(3, 5)})
	for resource := range 2 {
		if chain, ok := Why(x, 0, resource); !ok || !Proves(x, 0, resource, 1, chain) {
			t.Error(resource, chain)
		}
	}
}
