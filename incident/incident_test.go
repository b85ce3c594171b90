package incident

import (
	"math"
	"math/rand"
	"strings"
	"testing"

	"leakresponse/api"
	"leakresponse/cluster"
	"leakresponse/fleet"
	"leakresponse/plan"
	"leakresponse/steps"
)

type world struct {
	d       api.Directory
	a       api.Estate
	r       api.Registry
	x       api.Rights
	worths  []int
	f       api.Finding
	content int
	fl      api.Fleet
	s       api.Rotation
	c       api.Cluster
}

func (w world) build() (api.Summary, api.Errno) {
	return Build(w.d, w.a, w.r, w.x, w.worths, w.f, w.content, w.fl, w.s, w.c)
}

func sample() world {
	fl := api.Fleet{Slots: 2, Consumers: []api.Consumer{{Live: true}}}
	s, _ := fleet.Start(fl)
	c, _ := cluster.New(1, api.BitOld, true)
	return world{
		d:      api.Directory{Kinds: []int{api.PrincipalPerson, api.PrincipalService, api.PrincipalGroup}},
		a:      api.Estate{Places: 1, Events: []api.Access{{Time: 3, Kind: api.AccessPut, Content: 4}, {Time: 5, Kind: api.AccessGrant, Principal: 1}, {Time: 7, Kind: api.AccessGrant, Principal: 0}}},
		r:      api.Registry{Issuers: []api.Issuer{{Name: "a", Slots: 2}}, Credentials: []api.Credential{{Fingerprint: 9, Until: 5}, {Fingerprint: 7, Holder: 1, Until: 5}, {Fingerprint: 7, Holder: 2, Until: 5}}},
		x:      api.Rights{Credentials: 3, Resources: 1, Grants: []api.Grant{{Credential: 0, Right: 3}, {Credential: 1, Right: 1}, {Credential: 2, Right: 2}}},
		worths: []int{50}, f: api.Finding{Kind: 3, Fingerprint: 7, Where: make([]api.Spot, 2)}, content: 4, fl: fl, s: s, c: c,
	}
}

// P43.1
func TestBuild(t *testing.T) {
	w := sample()
	want := api.Summary{Fingerprint: 7, Spots: 2, Readers: 2, Since: 5, Severity: api.Severity{Level: api.LevelMedium, Worth: 100, Audience: 3, Score: 300}}
	if m, e := w.build(); m != want || e != api.OK {
		t.Error(m, e)
	}
	l, _ := plan.Make(w.fl)
	states, _ := steps.Run(w.fl, w.s, l)
	w.s = states[len(states)-1]
	w.c, _, _ = cluster.Run(w.c, []api.ReplicaEvent{{Kind: api.ReplicaPublish, Bits: api.BitNew}, {Kind: api.ReplicaSync}})
	want.Rotated, want.Dead = true, true
	if m, e := w.build(); m != want || e != api.OK || !Closed(m) {
		t.Error(m, e)
	}
	w.a.Events = append(w.a.Events, api.Access{Time: 9, Kind: api.AccessLink, Until: 10})
	want.Public, want.Severity = true, api.Severity{Level: api.LevelCritical, Worth: 100, Audience: 100, Score: 10000}
	if m, e := w.build(); m != want || e != api.OK {
		t.Error(m, e)
	}
	w.a.Events = nil
	want.Public, want.Readers, want.Since, want.Severity = false, 0, -1, api.Severity{Level: api.LevelMedium, Worth: 100, Audience: 1, Score: 100}
	if m, e := w.build(); m != want || e != api.OK {
		t.Error(m, e)
	}
	w.f = api.Finding{Fingerprint: 8}
	want.Fingerprint, want.Spots, want.Severity = 8, 0, api.Severity{}
	if m, e := w.build(); m != want || e != api.OK {
		t.Error(m, e)
	}
}

// P43.1: each error hides those behind it.
func TestErrors(t *testing.T) {
	w := sample()
	for i, c := range []struct {
		e     api.Errno
		wrong func(w *world)
	}{
		{api.ErrReplica, func(w *world) { w.c = api.Cluster{} }},
		{api.ErrFleet, func(w *world) { w.s = api.Rotation{} }},
		{api.ErrFleet, func(w *world) { w.fl = api.Fleet{} }},
		{api.ErrRange, func(w *world) { w.x.Credentials, w.x.Grants = 2, nil }},
		{api.ErrRange, func(w *world) { w.worths = []int{101} }},
		{api.ErrRange, func(w *world) { w.worths = nil }},
		{api.ErrRights, func(w *world) { w.x.Resources = -1 }},
		{api.ErrRegistry, func(w *world) { w.r.Issuers = nil }},
		{api.ErrRange, func(w *world) { w.content = 64 }},
		{api.ErrAccess, func(w *world) { w.a = api.Estate{} }},
		{api.ErrDirectory, func(w *world) { w.d = api.Directory{Kinds: []int{9}} }},
	} {
		c.wrong(&w)
		if m, e := w.build(); e != c.e || m != (api.Summary{}) {
			t.Error(i, m, e)
		}
	}
	w = sample()
	w.f.Fingerprint, w.worths = 1, []int{-1} // worths are asked for without a credential, too
	if _, e := w.build(); e != api.ErrRange {
		t.Error(e)
	}
	w.worths, w.x.Credentials, w.x.Grants = []int{1}, 0, nil
	if _, e := w.build(); e != api.OK {
		t.Error(e)
	}
}

// P43.2
func TestText(t *testing.T) {
	m := api.Summary{Fingerprint: 7, Spots: 1, Readers: 2, Since: 5, Severity: api.Severity{Level: 2, Worth: 100, Audience: 3, Score: 300}, Rotated: true, Dead: true}
	good := "leak 7 spots 1 inside readers 2 since 5 level 2 worth 100 audience 3 score 300 rotated dead"
	if s := Text(m); s != good {
		t.Error(s)
	}
	if x, e := Parse(good); x != m || e != api.OK {
		t.Error(x, e)
	}
	other := api.Summary{Fingerprint: math.MaxUint64, Spots: math.MinInt, Public: true, Since: -1, Severity: api.Severity{Score: math.MaxInt}}
	if s := Text(other); s != "leak 18446744073709551615 spots -9223372036854775808 public readers 0 since -1 level 0 worth 0 audience 0 score 9223372036854775807 valid alive" {
		t.Error(s)
	}
	r := rand.New(rand.NewSource(1))
	for range 300 {
		n := func() int { return r.Intn(2000) - 500 }
		m := api.Summary{Fingerprint: r.Uint64(), Spots: n(), Public: r.Intn(2) == 0, Readers: n(), Since: n(), Severity: api.Severity{Level: n(), Worth: n(), Audience: n(), Score: n()}, Rotated: r.Intn(2) == 0, Dead: r.Intn(2) == 0}
		if x, e := Parse(Text(m)); x != m || e != api.OK {
			t.Fatal(m, x, e)
		}
		if Closed(m) != (m.Rotated && m.Dead) {
			t.Fatal(m)
		}
	}
	words := strings.Split(good, " ")
	for i := range words {
		for _, w := range []string{"", "x", "07", "-0", "+1", "1.0", "99999999999999999999", "Dead", "valid "} {
			l := append(append([]string{}, words[:i]...), w)
			s := strings.Join(append(l, words[i+1:]...), " ")
			if x, e := Parse(s); e != api.ErrSyntax || x != (api.Summary{}) {
				t.Errorf("%q: %d", s, e)
			}
		}
	}
	for _, s := range []string{"", good + " ", " " + good, good + "\n", good + " dead", strings.Replace(good, " ", "  ", 1), strings.Replace(good, "leak 7", "leak -7", 1), strings.TrimSuffix(good, " dead")} {
		if _, e := Parse(s); e != api.ErrSyntax {
			t.Errorf("%q: %d", s, e)
		}
	}
}
