package exposure

import (
	"math/rand"
	"slices"
	"testing"

	"leakresponse/access"
	"leakresponse/api"
	"leakresponse/copies"
	"leakresponse/directory"
	"leakresponse/readers"
)

const (
	person  = api.PrincipalPerson
	group   = api.PrincipalGroup
	service = api.PrincipalService
)

func join(t, p, g int) api.Member {
	return api.Member{Time: t, Kind: api.MemberJoin, Principal: p, Group: g}
}

func event(t, kind, place, n int) api.Access {
	x := api.Access{Time: t, Kind: kind, Place: place}
	switch kind {
	case api.AccessGrant, api.AccessRevoke:
		x.Principal = n
	case api.AccessLink:
		x.Until = n
	case api.AccessPut, api.AccessRemove:
		x.Content = n
	case api.AccessCopy:
		x.From = n
	}
	return x
}

func same(a, b api.Leak) bool {
	x, y := a.Reading, b.Reading
	return slices.Equal(a.Way, b.Way) && slices.Equal(x.Chain, y.Chain) && x.Place == y.Place && x.Time == y.Time && x.Link == y.Link && x.Grant == y.Grant
}

// P30.1
func TestErrors(t *testing.T) {
	d := api.Directory{Kinds: []int{person, group}}
	a := api.Estate{Places: 1, Events: []api.Access{event(3, api.AccessPut, 0, 5), event(7, api.AccessGrant, 0, 0), event(9, api.AccessLink, 0, 20)}}
	if all, e := All(d, a, 5); e != api.OK || !slices.Equal(all, []api.Exposure{{Principal: -1, Time: 9}, {Principal: 0, Time: 7}}) {
		t.Error(all, e)
	}
	if n, ok := First(d, a, 5); n != 7 || !ok {
		t.Error(n, ok)
	}
	leak, ok := Why(d, a, 5, -1)
	if !ok {
		t.Error("Why")
	}
	for i, c := range []struct {
		d       api.Directory
		a       api.Estate
		content int
		e       api.Errno
	}{{api.Directory{Kinds: []int{9}}, api.Estate{}, 64, api.ErrDirectory}, {d, api.Estate{}, 64, api.ErrAccess}, {d, a, 64, api.ErrRange}, {d, a, -1, api.ErrRange}, {api.Directory{Kinds: []int{9}}, a, 5, api.ErrDirectory}, {d, a, 6, 0}} {
		all, e := All(c.d, c.a, c.content)
		n, ok1 := Since(c.d, c.a, c.content, -1)
		m, ok2 := First(c.d, c.a, c.content)
		l, ok3 := Why(c.d, c.a, c.content, -1)
		if e != c.e || len(all)+n+m > 0 || ok1 || ok2 || ok3 || !same(l, api.Leak{}) || Could(c.d, c.a, c.content, -1, 9) || Proves(c.d, c.a, c.content, api.Exposure{Principal: -1, Time: 9}, leak) {
			t.Error(i, e)
		}
	}
	for _, p := range []int{1, 2, -2} {
		n, ok := Since(d, a, 5, p)
		if l, ok2 := Why(d, a, 5, p); n != 0 || ok || ok2 || !same(l, api.Leak{}) || Could(d, a, 5, p, 9) {
			t.Error(p)
		}
	}
	for at, want := range map[int]bool{-1: false, 6: false, 7: true, api.MaxTime: true, api.MaxTime + 1: false} {
		if Could(d, a, 5, 0, at) != want {
			t.Error(at)
		}
	}
}

// P30.2
func TestProves(t *testing.T) {
	d := api.Directory{Kinds: []int{person, group, service}, Events: []api.Member{join(2, 0, 1)}}
	a := api.Estate{Places: 2, Events: []api.Access{event(1, api.AccessPut, 0, 5), event(3, api.AccessGrant, 1, 1), event(4, api.AccessCopy, 1, 0), event(6, api.AccessLink, 1, 9)}}
	way := []int{0, 2}
	read := func(place, t, link, grant int, chain ...int) api.Reading {
		return api.Reading{Place: place, Time: t, Link: link, Grant: grant, Chain: chain}
	}
	for i, c := range []struct {
		p, t int
		l    api.Leak
		want bool
	}{
		{0, 4, api.Leak{Way: way, Reading: read(1, 4, -1, 1, 0, 1)}, true}, {0, 8, api.Leak{Way: way, Reading: read(1, 8, -1, 1, 0, 1)}, true}, {0, 8, api.Leak{Way: way, Reading: read(1, 8, 3, -1)}, true}, {2, 8, api.Leak{Way: way, Reading: read(1, 8, 3, -1)}, true}, {-1, 8, api.Leak{Way: way, Reading: read(1, 8, 3, -1)}, true},
		{0, 5, api.Leak{Way: way, Reading: read(1, 4, -1, 1, 0, 1)}, false}, {0, 4, api.Leak{Reading: read(1, 4, -1, 1, 0, 1)}, false}, {0, 4, api.Leak{Way: []int{0}, Reading: read(1, 4, -1, 1, 0, 1)}, false}, {0, 3, api.Leak{Way: way, Reading: read(1, 3, -1, 1, 0, 1)}, false}, {0, 4, api.Leak{Way: way, Reading: read(1, 4, -1, 1, 0)}, false},
		{1, 4, api.Leak{Way: way, Reading: read(1, 4, -1, 1, 1)}, false}, {2, 4, api.Leak{Way: way, Reading: read(1, 4, -1, 1, 0, 1)}, false}, {-1, 4, api.Leak{Way: way, Reading: read(1, 4, -1, 1, 0, 1)}, false}, {-1, 9, api.Leak{Way: way, Reading: read(1, 9, 3, -1)}, false}, {-1, 8, api.Leak{Way: way, Reading: read(1, 8, 3, -1, 0)}, false}, {-1, 8, api.Leak{Way: way, Reading: read(1, 8, 3, 1)}, false}, {-1, 8, api.Leak{Way: way, Reading: read(1, 8, -1, -1)}, false}, {-2, 8, api.Leak{Way: way, Reading: read(1, 8, 3, -1)}, false},
		{-1, api.MaxTime + 1, api.Leak{Way: way, Reading: read(1, api.MaxTime+1, 3, -1)}, false}, {0, api.MaxTime + 1, api.Leak{Way: way, Reading: read(1, api.MaxTime+1, -1, 1, 0, 1)}, false}, {0, api.MaxTime, api.Leak{Way: way, Reading: read(1, api.MaxTime, -1, 1, 0, 1)}, true},
	} {
		if Proves(d, a, 5, api.Exposure{Principal: c.p, Time: c.t}, c.l) != c.want {
			t.Error(i)
		}
	}
}

// P30.1 and P30.2, against each time.
func TestAll(t *testing.T) {
	r := rand.New(rand.NewSource(1))
	exposed := 0
	for range 1500 {
		d := api.Directory{Kinds: []int{person, group, service, group}}
		a := api.Estate{Places: 3}
		at := 0
		for range r.Intn(14) {
			at += r.Intn(2)
			if x := join(at, r.Intn(4), 1+2*r.Intn(2)); x.Principal != x.Group && r.Intn(2) == 0 {
				x.Kind += r.Intn(5) / 4
				d.Events = append(d.Events, x)
			}
			kind, place := 1+r.Intn(7), r.Intn(3)
			n := map[int]int{api.AccessLink: at + 1 + r.Intn(3), api.AccessCopy: (place + 1 + r.Intn(2)) % 3, api.AccessGrant: r.Intn(5), api.AccessRevoke: r.Intn(5), api.AccessPut: r.Intn(2), api.AccessRemove: r.Intn(2)}[kind]
			a.Events = append(a.Events, event(at, kind, place, n))
		}
		if directory.Check(d) != api.OK || access.Check(a) != api.OK {
			t.Fatal(d, a)
		}
		var want []api.Exposure
		first := -1
		for p := -1; p < 4; p++ {
			seen := false
			for when := 0; when < at+4; when++ {
				could := false
				for _, place := range copies.Where(a, 0, when) {
					_, open := access.Linked(a, place, when)
					could = could || p == -1 && open || p >= 0 && readers.May(d, a, p, place, when)
				}
				if Could(d, a, 0, p, when) != could {
					t.Fatal(d, a, p, when)
				}
				if could && !seen {
					want = append(want, api.Exposure{Principal: p, Time: when})
					seen = true
					if first < 0 || when < first {
						first = when
					}
				}
			}
			n, ok := Since(d, a, 0, p)
			l, ok2 := Why(d, a, 0, p)
			if ok != seen || ok2 != seen || ok && n != want[len(want)-1].Time || !ok && (n != 0 || !same(l, api.Leak{})) {
				t.Fatal(d, a, p, n, ok)
			}
			if ok && !Proves(d, a, 0, want[len(want)-1], l) {
				t.Fatal(d, a, p, l)
			}
		}
		got, e := All(d, a, 0)
		if e != api.OK || !slices.Equal(got, want) {
			t.Fatal(d, a, got, want)
		}
		if n, ok := First(d, a, 0); ok != (len(want) > 0) || ok && n != first || !ok && n != 0 {
			t.Fatal(n, first)
		}
		exposed += len(want)
	}
	if exposed < 400 {
		t.Error(exposed)
	}
}

// All at the bounds of everything.
func TestLarge(t *testing.T) {
	d := api.Directory{Kinds: slices.Concat(slices.Repeat([]int{group}, 12), slices.Repeat([]int{person}, 12))}
	a := api.Estate{Places: 16}
	for i := range 120 {
		d.Events = append(d.Events, join(2*i, (i*7)%12+i%2, (i*7)%12+1-i%2))
		a.Events = append(a.Events, event(2*i+1, api.AccessGrant, i%16, i%24))
	}
	for i := range 16 {
		a.Events[i] = event(2*i+1, api.AccessPut, i, 0)
	}
	for i := range d.Events {
		if x := &d.Events[i]; x.Group > 11 || x.Group == x.Principal {
			x.Principal, x.Group = 12, 3
		}
	}
	if all, e := All(d, a, 0); e != api.OK || len(all) != 12 {
		t.Error(len(all), e)
	}
}
