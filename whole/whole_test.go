// Package whole tests the promises T1 to T10 of shared/DOC.md, over all layers together.
package whole

import (
	"math/rand"
	"slices"
	"strconv"
	"strings"
	"testing"

	"leakresponse/api"
	"leakresponse/archive"
	"leakresponse/cluster"
	"leakresponse/coding"
	"leakresponse/copies"
	"leakresponse/directory"
	"leakresponse/export"
	"leakresponse/exposure"
	"leakresponse/fallback"
	"leakresponse/finding"
	"leakresponse/fingerprint"
	"leakresponse/fleet"
	"leakresponse/ledger"
	"leakresponse/library"
	"leakresponse/object"
	"leakresponse/pack"
	"leakresponse/plan"
	"leakresponse/probe"
	"leakresponse/readers"
	"leakresponse/regress"
	"leakresponse/rights"
	"leakresponse/rule"
	"leakresponse/runner"
	"leakresponse/scan"
	"leakresponse/source"
	"leakresponse/stream"
	"leakresponse/sweep"
)

const key = 77

func ok(t *testing.T, e api.Errno) {
	t.Helper()
	if e != api.OK {
		t.Fatal(e)
	}
}

func kinds(t *testing.T) []api.Kind {
	l, e := library.Parse("token tok\\x2d[0-9a-f]{12} whole\nword pass[a-z]{6} near 12 word " + "6b6579" + "\n")
	ok(t, e)
	return l
}

// planted returns sources in which a secret stands in many places: behind encodings, in archives, and in what was deleted.
func planted(t *testing.T, secret string) []api.Source {
	encode := func(c int, s string) string {
		out, e := coding.Encode(c, []byte(s))
		ok(t, e)
		return out
	}
	zip := func(l ...api.Entry) []byte {
		b, e := archive.Format(l)
		ok(t, e)
		return b
	}
	hidden := "a " + encode(api.CodingBase64, "b "+encode(api.CodingHex, "c %20"+secret+" ")+" ") + " d"
	inner := zip(api.Entry{Name: "file", Data: []byte("key=" + secret)}, api.Entry{Name: "same", Data: []byte(hidden)})
	objects := []api.Object{
		{ID: 1, Kind: api.ObjectBlob, Data: []byte("x " + secret + "\n")}, {ID: 2, Kind: api.ObjectBlob, Data: []byte(hidden)}, {ID: 3, Kind: api.ObjectBlob, Data: []byte("clean")},
		{ID: 4, Kind: api.ObjectTree, Items: []api.Item{{Name: "a", ID: 1}, {Name: "b", ID: 2}}}, {ID: 5, Kind: api.ObjectTree, Items: []api.Item{{Name: "c", ID: 3}, {Name: "d", ID: 4}}},
		{ID: 6, Kind: api.ObjectCommit, Tree: 5, Author: "ann", Time: 1}, {ID: 7, Kind: api.ObjectCommit, Tree: 4, Parents: []int{6}, Author: "ann", Time: 2}, {ID: 8, Kind: api.ObjectCommit, Tree: 10, Author: "ann", Time: 3}, {ID: 10, Kind: api.ObjectTree},
	}
	packed, e := pack.Make(objects)
	ok(t, e)
	lines, e := export.Format([]api.Message{{Kind: api.MessagePost, ID: 1, Author: "bob", Time: 5, Text: "my key\n" + secret}, {Kind: api.MessageEdit, ID: 1, Author: "bob", Time: 6, Text: "gone"}, {Kind: api.MessageDelete, ID: 1, Author: "bob", Time: 7}})
	ok(t, e)
	l := []api.Source{
		{Name: "repo", Kind: api.SourceRepository, Pack: packed, Refs: []api.RefEvent{{Kind: api.RefSet, Name: "main", Commit: 7, Time: 4}, {Kind: api.RefSet, Name: "main", Commit: 8, Time: 9}}},
		{Name: "zip", Kind: api.SourceArchive, Bytes: zip(api.Entry{Name: "in", Data: inner}, api.Entry{Name: "out", Data: []byte(hidden)})},
		{Name: "chat", Kind: api.SourceExport, Bytes: lines}, {Name: "log", Kind: api.SourceFile, Bytes: []byte("%2520" + secret + " " + secret)},
	}
	for _, s := range l {
		ok(t, source.Valid(s))
	}
	return l
}

func collect(t *testing.T, l []api.Source) []api.Finding {
	contents, e := sweep.Gather(l)
	ok(t, e)
	f, e := finding.Collect(key, kinds(t), contents)
	ok(t, e)
	return f
}

// T1, T3: what is planted is found, once in each place.
func TestPlanted(t *testing.T) {
	secret := "tok-0123456789ab"
	f := collect(t, planted(t, secret))
	n := finding.Find(f, 0, fingerprint.Of(key, 0, []byte(secret)))
	if n < 0 || len(f) != 1 || !finding.Ordered(f) {
		t.Fatal(f)
	}
	count := map[string]int{}
	for _, s := range f[n].Where {
		count[strconv.Itoa(s.Place.Source)+" "+s.Place.Path+" "+strconv.Itoa(len(s.Layers))]++
	}
	// The digit of a %20 hides the secret until it is opened. An archive has the secrets of its entries in its own bytes, too.
	for place, want := range map[string]int{"0 6:d/a 0": 1, "0 7:a 0": 1, "0 6:d/b 3": 1, "0 7:b 3": 1, "1 in!file 0": 1, "1 in!same 3": 1, "1 out 3": 1, "1 in 0": 1, "1  0": 1, "2 1 0": 1, "3  0": 1, "3  2": 1} {
		if count[place] != want {
			t.Errorf("%q: %d of %v", place, count[place], count)
		}
	}
	for _, s := range f[n].Where {
		if s.Place.Path == "6:d/a" && s.Place.Time != 4 || s.Place.Source == 2 && s.Place.Time != 5 {
			t.Error(s)
		}
	}
}

// T2: in pieces, and in any order of sources, the same is found.
func TestOrder(t *testing.T) {
	l := planted(t, "tok-0123456789ab")
	want := collect(t, l)
	order := []int{2, 0, 3, 1}
	var other []api.Source
	for _, i := range order {
		other = append(other, l[i])
	}
	got := collect(t, other)
	var back []api.Finding
	for _, f := range got {
		one := api.Finding{Kind: f.Kind, Fingerprint: f.Fingerprint}
		for _, s := range f.Where {
			s.Place.Source = order[s.Place.Source]
			x := []api.Finding{{Kind: f.Kind, Fingerprint: f.Fingerprint, Where: []api.Spot{s}}}
			merged, e := finding.Merge([]api.Finding{one}[:min(1, len(one.Where))], x)
			ok(t, e)
			one = merged[0]
		}
		back = append(back, one)
	}
	if !finding.Same(back, want) {
		t.Error("another order of sources")
	}
	contents, _ := sweep.Gather(l)
	for _, c := range contents {
		all, e := scan.All(kinds(t), c.Data)
		ok(t, e)
		s, _ := stream.New(kinds(t))
		for b := c.Data; len(b) > 0; b = b[min(5, len(b)):] {
			s, e = stream.Feed(kinds(t), s, b[:min(5, len(b))])
			ok(t, e)
		}
		if m, e := stream.Finish(kinds(t), s); e != api.OK || !slices.Equal(m, all) {
			t.Error(m, e)
		}
	}
}

// T4: of the bytes of a secret the findings tell the fingerprint alone.
func TestFingerprints(t *testing.T) {
	a, b := collect(t, planted(t, "tok-0123456789ab")), collect(t, planted(t, "tok-fedcba987654"))
	if a[0].Fingerprint == b[0].Fingerprint {
		t.Error("the same fingerprint")
	}
	b[0].Fingerprint = a[0].Fingerprint
	if !finding.Same(a, b) {
		t.Error("the findings tell more")
	}
}

// T5: a change of rules changes what the regression says, and nothing else.
func TestRules(t *testing.T) {
	f := collect(t, planted(t, "tok-0123456789ab"))
	before, e := rule.Parse("chat: false if source 2\n")
	ok(t, e)
	r, e := regress.Exact(f, 0, 0, kinds(t), "exact")
	ok(t, e)
	after, e := regress.Insert(before, r, 1)
	ok(t, e)
	changes, e := regress.Changes(before, after, kinds(t), f)
	ok(t, e)
	old, _ := regress.Verdicts(before, kinds(t), f)
	now, _ := regress.Verdicts(after, kinds(t), f)
	for _, c := range changes {
		if old[c.Finding][c.Spot] != c.Before || now[c.Finding][c.Spot] != c.After || c.By != 1 {
			t.Error(c)
		}
		old[c.Finding][c.Spot] = c.After
	}
	if len(changes) == 0 || !slices.EqualFunc(old, now, slices.Equal[[]int]) {
		t.Error(changes)
	}
}

// T6: who could read is shown by a chain of events, who could not by closed sets at each time.
func TestReaders(t *testing.T) {
	r := rand.New(rand.NewSource(1))
	for range 200 {
		d := api.Directory{Kinds: []int{api.PrincipalPerson, api.PrincipalGroup, api.PrincipalService, api.PrincipalGroup}}
		a := api.Estate{Places: 2}
		for at := range 10 {
			if p, g := r.Intn(4), 1+2*r.Intn(2); p != g {
				d.Events = append(d.Events, api.Member{Time: at, Kind: api.MemberJoin + r.Intn(3)/2, Principal: p, Group: g})
			}
			place := r.Intn(2)
			a.Events = append(a.Events, []api.Access{{Time: at, Kind: api.AccessGrant, Place: place, Principal: r.Intn(4)}, {Time: at, Kind: api.AccessRevoke, Place: place, Principal: r.Intn(4)}, {Time: at, Kind: api.AccessPut, Place: place}, {Time: at, Kind: api.AccessRemove, Place: place}, {Time: at, Kind: api.AccessCopy, Place: place, From: 1 - place}, {Time: at, Kind: api.AccessLink, Place: place, Until: at + 1}}[r.Intn(6)])
		}
		all, e := exposure.All(d, a, 0)
		ok(t, e)
		for _, p := range []int{0, 2} {
			i := slices.IndexFunc(all, func(x api.Exposure) bool { return x.Principal == p })
			until := 20
			if i >= 0 {
				until = all[i].Time
				leak, _ := exposure.Why(d, a, 0, p)
				if !exposure.Proves(d, a, 0, all[i], leak) {
					t.Fatal(d, a, p)
				}
			}
			for at := range until {
				for _, place := range copies.Where(a, 0, at) {
					if !readers.Refutes(d, a, p, place, at, directory.Upward(d, p, at)) {
						t.Fatal(d, a, p, at)
					}
				}
			}
		}
	}
}

// T7: rights are closed under what lies behind a credential.
func TestRights(t *testing.T) {
	x := api.Rights{Credentials: 3, Resources: 2, Grants: []api.Grant{{Credential: 0, Resource: 0, Right: 1}, {Credential: 2, Resource: 1, Right: 3}}, Stores: []api.Store{{Resource: 0, Credential: 1}}, Mints: []api.Mint{{From: 1, To: 2}}}
	chain, is := rights.Why(x, 0, 1)
	if !is || !rights.Proves(x, 0, 1, api.RightAdmin, chain) || !rights.Closed(x, rights.Reach(x, 0)) || !slices.Equal(rights.Bound(x, rights.Reach(x, 0)), rights.Power(x, 0)) {
		t.Error(chain)
	}
}

// T8: all pools are served at every moment, under all failures, and when a rotation stops and goes on.
func TestRotation(t *testing.T) {
	f := api.Fleet{Slots: 1, Consumers: []api.Consumer{{Pool: 0}, {Pool: 0, Dual: true}, {Pool: 1, Dual: true, Live: true}}}
	l, e := plan.Make(f)
	ok(t, e)
	r := rand.New(rand.NewSource(1))
	for range 300 {
		s, _ := fleet.Start(f)
		list := l
		for !fleet.Ended(f, s) {
			var outcomes []int
			for range 60 {
				outcomes = append(outcomes, []int{api.OutcomeDone, api.OutcomeLost, api.OutcomeLost, api.OutcomeMute, api.OutcomeTwice, api.OutcomeBack, api.OutcomeBack}[r.Intn(7)])
			}
			way, _ := runner.States(f, s, list, outcomes)
			for _, x := range way {
				if !fallback.Hold(f, x) || !fallback.Forward(f, s, x) {
					t.Fatal(x)
				}
			}
			s, _, _ = runner.Run(f, s, list, outcomes)
			list, e = fallback.Make(f, s)
			ok(t, e)
		}
	}
}

// T9: behind the fence nothing accepts the old credential again.
func TestFence(t *testing.T) {
	r := rand.New(rand.NewSource(1))
	c, e := cluster.New(3, api.BitOld, true)
	ok(t, e)
	c, _, e = cluster.Run(c, []api.ReplicaEvent{{Kind: api.ReplicaSnapshot}, {Kind: api.ReplicaPublish, Bits: 3}, {Kind: api.ReplicaSync, Replica: 1}, {Kind: api.ReplicaSnapshot, Replica: 1}, {Kind: api.ReplicaPublish, Bits: 2}, {Kind: api.ReplicaSync}, {Kind: api.ReplicaSync, Replica: 1}, {Kind: api.ReplicaSync, Replica: 2}})
	ok(t, e)
	all, _ := probe.All(c)
	if !probe.Right(c, all) || !probe.Enough(c, all) {
		t.Fatal(all)
	}
	for range 100 {
		x := api.ReplicaEvent{Kind: api.ReplicaSync + 2*r.Intn(2), Replica: r.Intn(3)}
		if x.Kind == api.ReplicaRestore {
			x.Snapshot = r.Intn(2)
		}
		c, e = cluster.Apply(c, x)
		ok(t, e)
		if _, revives := cluster.Revives(c, api.BitOld); revives || !cluster.Dead(c, api.BitOld) || !probe.Enough(c, all) {
			t.Fatal(c)
		}
	}
}

// T10: what was believed at a time stays so, whatever is learned later.
func TestLedger(t *testing.T) {
	r := rand.New(rand.NewSource(1))
	var l []api.Record
	believed := map[[2]int]api.Belief{}
	for k := range 50 {
		var e api.Errno
		l, e = ledger.Append(l, api.Record{Known: k, Since: r.Intn(60), Subject: 1, Value: r.Intn(9)})
		ok(t, e)
		for at := range 60 {
			believed[[2]int{k, at}], _ = ledger.Believe(l, k, 1, at)
		}
	}
	for x, want := range believed {
		if b, _ := ledger.Believe(l, x[0], 1, x[1]); b != want {
			t.Fatal(x, b)
		}
	}
}

// The objects of the planted repository are what they were, behind their pack.
func TestPack(t *testing.T) {
	r, e := source.Repository(planted(t, "tok-0123456789ab")[0])
	ok(t, e)
	p, e := pack.Make(r.Objects)
	ok(t, e)
	again, e := pack.Resolve(p)
	if e != api.OK || !slices.EqualFunc(again, r.Objects, object.Same) || !strings.Contains(string(r.Objects[0].Data), "tok-") {
		t.Error(e)
	}
}
