package readers

import (
	"math/rand"
	"slices"
	"testing"

	"leakresponse/access"
	"leakresponse/api"
	"leakresponse/directory"
)

const (
	person  = api.PrincipalPerson
	group   = api.PrincipalGroup
	service = api.PrincipalService
)

func join(t, p, g int) api.Member {
	return api.Member{Time: t, Kind: api.MemberJoin, Principal: p, Group: g}
}

func grant(t, place, p int) api.Access {
	return api.Access{Time: t, Kind: api.AccessGrant, Place: place, Principal: p}
}

func revoke(t, place, p int) api.Access {
	return api.Access{Time: t, Kind: api.AccessRevoke, Place: place, Principal: p}
}

func link(t, place, until int) api.Access {
	return api.Access{Time: t, Kind: api.AccessLink, Place: place, Until: until}
}

func unlink(t, place int) api.Access {
	return api.Access{Time: t, Kind: api.AccessUnlink, Place: place}
}

func equal(a, b api.Reading) bool {
	return a.Place == b.Place && a.Time == b.Time && a.Link == b.Link && a.Grant == b.Grant && slices.Equal(a.Chain, b.Chain)
}

var (
	sample = api.Directory{Kinds: []int{person, group, service, group, person}, Events: []api.Member{join(2, 0, 1), join(3, 1, 3), join(4, 2, 3)}}
	estate = api.Estate{Places: 3, Events: []api.Access{grant(1, 0, 3), grant(2, 0, 20), grant(5, 0, 0), grant(6, 0, 3), link(7, 1, 9), link(7, 1, 12), revoke(8, 0, 3), unlink(10, 1), grant(11, 2, 1)}}
)

// P28.1
func TestErrors(t *testing.T) {
	bad, badPlace := api.Directory{Kinds: []int{9}}, api.Estate{}
	for i, c := range []struct {
		d     api.Directory
		a     api.Estate
		place int
		e     api.Errno
	}{{bad, badPlace, 9, api.ErrDirectory}, {sample, badPlace, 9, api.ErrAccess}, {sample, estate, 3, api.ErrMissing}, {sample, estate, -1, api.ErrMissing}} {
		who, e := Who(c.d, c.a, c.place, 7)
		r, ok := Why(c.d, c.a, 0, c.place, 7)
		if e != c.e || who.Public || len(who.Principals) > 0 || ok || !equal(r, api.Reading{}) || May(c.d, c.a, 0, c.place, 7) || Refutes(c.d, c.a, 0, c.place, 7, []int{0}) || Proves(c.d, c.a, 0, api.Reading{Place: c.place, Time: 7, Link: -1, Grant: 2, Chain: []int{0}}) {
			t.Error(i, e)
		}
	}
	for _, p := range []int{-1, 1, 3, 5} {
		r, ok := Why(sample, estate, p, 1, 7)
		if ok || !equal(r, api.Reading{}) || May(sample, estate, p, 1, 7) || May(sample, estate, p, 0, 7) || Refutes(sample, estate, p, 2, 0, []int{p}) || Proves(sample, estate, p, api.Reading{Place: 1, Time: 7, Link: 4, Grant: -1}) {
			t.Error(p)
		}
	}
}

// P28.1
func TestWho(t *testing.T) {
	for _, c := range []struct {
		place, t int
		public   bool
		who      []int
	}{{0, 1, false, nil}, {0, 2, false, nil}, {0, 3, false, []int{0}}, {0, 4, false, []int{0, 2}}, {0, 8, false, []int{0}}, {1, 6, false, nil}, {1, 7, true, []int{0, 2, 4}}, {1, 9, true, []int{0, 2, 4}}, {1, 10, false, nil}, {2, 11, false, []int{0}}, {2, -1, false, nil}} {
		who, e := Who(sample, estate, c.place, c.t)
		if e != api.OK || who.Public != c.public || !slices.Equal(who.Principals, c.who) {
			t.Error(c, who, e)
		}
	}
}

// P28.2
func TestProves(t *testing.T) {
	for i, c := range []struct {
		p, place, t, link, grant int
		chain                    []int
		want                     bool
	}{
		{0, 0, 5, -1, 2, []int{0}, true}, {0, 0, 4, -1, 2, []int{0}, false}, {0, 0, 5, -1, 0, []int{0, 1, 3}, true}, {0, 0, 7, -1, 0, []int{0, 1, 3}, true}, {0, 0, 7, -1, 3, []int{0, 1, 3}, true}, {0, 0, 8, -1, 3, []int{0, 1, 3}, false}, {0, 0, 2, -1, 0, []int{0, 1, 3}, false}, {0, 0, 5, -1, 3, []int{0, 1, 3}, false},
		{2, 0, 5, -1, 0, []int{2, 3}, true}, {2, 0, 5, -1, 0, []int{2}, false}, {2, 0, 5, -1, 0, []int{0, 1, 3}, false}, {2, 0, 5, -1, 0, nil, false}, {2, 0, 5, -1, 1, []int{2}, false}, {2, 0, 5, -1, -1, nil, false}, {2, 0, 5, -1, 99, []int{2, 3}, false}, {2, 0, 5, -1, 9, []int{2, 3}, false}, {4, 1, 7, 9, -1, nil, false}, {0, 0, 5, 0, 2, []int{0}, false}, {0, 0, 5, -1, 2, []int{0, 1}, false}, {0, 2, 11, -1, 8, []int{0, 1}, true}, {0, 2, 11, -1, 8, []int{0, 1, 3}, false}, {0, 1, 5, -1, 2, []int{0}, false}, {0, 0, 9, -1, 6, []int{0, 1, 3}, false},
		{4, 1, 7, 4, -1, nil, true}, {4, 1, 7, 5, -1, nil, true}, {4, 1, 8, 4, -1, nil, true}, {4, 1, 9, 4, -1, nil, false}, {4, 1, 9, 5, -1, nil, true}, {4, 1, 10, 5, -1, nil, false}, {4, 1, 6, 5, -1, nil, false}, {4, 1, 7, 4, -1, []int{4}, false}, {4, 1, 7, 4, 0, nil, false}, {4, 0, 7, 4, -1, nil, false}, {4, 1, 7, 6, -1, nil, false}, {4, 1, 7, -1, -1, nil, false}, {4, 1, 7, 99, -1, nil, false},
	} {
		if Proves(sample, estate, c.p, api.Reading{Place: c.place, Time: c.t, Link: c.link, Grant: c.grant, Chain: c.chain}) != c.want {
			t.Error(i)
		}
	}
}

// P28.2
func TestRefutes(t *testing.T) {
	for i, c := range []struct {
		p, place, t int
		set         []int
		want        bool
	}{
		{4, 0, 9, []int{4}, true}, {4, 0, 9, []int{1, 3, 4}, true}, {4, 0, 9, []int{0, 1, 3, 4}, false}, {4, 0, 9, nil, false}, {4, 0, 9, []int{3}, false}, {4, 0, 9, []int{1, 4}, false}, {4, 0, 7, []int{3, 4}, false}, {4, 1, 7, []int{4}, false}, {4, 1, 12, []int{4}, true}, {2, 0, 8, []int{2, 3}, true}, {2, 0, 8, []int{3, 2}, false}, {2, 0, 8, []int{2}, false},
	} {
		if Refutes(sample, estate, c.p, c.place, c.t, c.set) != c.want {
			t.Error(i)
		}
	}
}

// P28.1 and P28.2: exactly those who may have a reading, and exactly the others a closed set.
func TestExactly(t *testing.T) {
	r := rand.New(rand.NewSource(1))
	for range 400 {
		d := api.Directory{Kinds: []int{person, group, service, group, group}}
		var l []api.Access
		for at := range 8 {
			if x := join(at, r.Intn(5), 1+r.Intn(4)); x.Principal != x.Group && d.Kinds[x.Group] == group {
				x.Kind += r.Intn(5) / 4
				d.Events = append(d.Events, x)
			}
			place := r.Intn(2)
			l = append(l, []api.Access{grant(at, place, r.Intn(6)), grant(at, place, r.Intn(6)), revoke(at, place, r.Intn(6)), link(at, place, at+2), unlink(at, place), {Time: at, Kind: api.AccessPut}}[r.Intn(6)])
		}
		a := api.Estate{Places: 2, Events: l}
		if directory.Check(d) != api.OK || access.Check(a) != api.OK {
			t.Fatal(d, a)
		}
		for at := range 10 {
			for place := range 2 {
				who, e := Who(d, a, place, at)
				_, open := access.Linked(a, place, at)
				if e != api.OK || who.Public != open {
					t.Fatal(e)
				}
				for p := range d.Kinds {
					may := open
					for _, g := range access.Granted(a, place, at) {
						may = may || g == p || directory.In(d, p, g, at)
					}
					may = may && d.Kinds[p] != group
					x, ok := Why(d, a, p, place, at)
					refuted := Refutes(d, a, p, place, at, directory.Upward(d, p, at))
					if May(d, a, p, place, at) != may || slices.Contains(who.Principals, p) != may || ok != may || d.Kinds[p] != group && refuted == may {
						t.Fatal(d, a, p, place, at)
					}
					if ok && (x.Place != place || x.Time != at || !Proves(d, a, p, x)) || !ok && !equal(x, api.Reading{}) {
						t.Fatal(d, a, p, x)
					}
				}
			}
		}
	}
}
