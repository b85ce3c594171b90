package probe

import (
	"math"
	"math/rand"
	"slices"
	"testing"

	"leakresponse/api"
	"leakresponse/cluster"
)

func at(generation int, serving bool) api.Replica {
	return api.Replica{Generation: generation, Serving: serving}
}

func evidence(replica, generation int, refused bool) api.Evidence {
	return api.Evidence{Replica: replica, Generation: generation, Refused: refused}
}

var sample = api.Cluster{Sets: []int{1, 2, 1, 2, 0, 2}, Replicas: []api.Replica{at(5, true), at(2, true), at(2, false)}}

// P38.1
func TestAsk(t *testing.T) {
	want := []api.Evidence{evidence(0, 5, true), evidence(1, 2, false), evidence(2, 2, true)}
	all, e := All(sample)
	if e != api.OK || !slices.Equal(all, want) || !Right(sample, all) || !Right(sample, nil) {
		t.Error(all, e)
	}
	for i, w := range want {
		if x, e := Ask(sample, i); x != w || e != api.OK {
			t.Error(x, e)
		}
	}
	for _, replica := range []int{-1, 3, math.MaxInt} {
		if x, e := Ask(sample, replica); e != api.ErrMissing || x != (api.Evidence{}) || Right(sample, []api.Evidence{evidence(replica, 5, true)}) {
			t.Error(replica, e)
		}
	}
	for _, x := range []api.Evidence{evidence(0, 5, false), evidence(0, 4, true), evidence(1, 5, true)} {
		if Right(sample, []api.Evidence{want[0], x}) {
			t.Error(x)
		}
	}
	bad := api.Cluster{Sets: []int{2}}
	x, e := Ask(bad, 9)
	all, f := All(bad)
	n, ok := Since(bad, api.BitOld)
	if e != api.ErrReplica || f != api.ErrReplica || x != (api.Evidence{}) || len(all) > 0 || Right(bad, nil) || Enough(bad, nil) || len(Missing(bad, nil)) > 0 || n != 0 || ok {
		t.Error("a cluster that is not valid")
	}
}

// P38.2
func TestMissing(t *testing.T) {
	for bit, want := range map[int][2]int{api.BitOld: {3, 1}, api.BitNew: {0, 0}, 0: {0, 0}, 3: {0, 0}, -1: {0, 0}} {
		if n, ok := Since(sample, bit); n != want[0] || ok != (want[1] == 1) {
			t.Error(bit, n, ok)
		}
	}
	if n, ok := Since(api.Cluster{Sets: []int{0, 2}, Replicas: sample.Replicas[:0:0]}, 1); n != 0 || ok {
		t.Error("not valid")
	}
	if n, ok := Since(api.Cluster{Sets: []int{0, 2}, Replicas: []api.Replica{{}}}, 1); n != 0 || !ok {
		t.Error("from the first one on")
	}
	for i, c := range []struct {
		l    []api.Evidence
		want []int
	}{
		{nil, []int{0, 1, 2}}, {[]api.Evidence{evidence(0, 5, true)}, []int{1, 2}}, {[]api.Evidence{evidence(0, 3, true), evidence(1, 4, true), evidence(2, 5, true)}, nil}, {[]api.Evidence{evidence(0, 2, true), evidence(1, 1, true), evidence(2, 5, false)}, []int{0, 1, 2}},
		{[]api.Evidence{evidence(0, 2, true), evidence(0, 3, true)}, []int{1, 2}}, {[]api.Evidence{evidence(0, 6, true), evidence(-1, 5, true), evidence(3, 5, true), evidence(1, math.MaxInt, true), evidence(2, math.MinInt, true)}, []int{0, 1, 2}},
	} {
		if got := Missing(sample, c.l); !slices.Equal(got, c.want) || Enough(sample, c.l) != (len(c.want) == 0) {
			t.Error(i, got)
		}
	}
	old := api.Cluster{Sets: []int{2, 1}, Replicas: []api.Replica{at(0, true)}}
	if got := Missing(old, []api.Evidence{evidence(0, 0, true), evidence(0, 1, true)}); !slices.Equal(got, []int{0}) {
		t.Error(got)
	}
	c, _ := cluster.New(2, api.BitOld, true)
	c, _, _ = cluster.Run(c, []api.ReplicaEvent{{Kind: api.ReplicaPublish, Bits: api.BitNew}, {Kind: api.ReplicaSync}})
	all, _ := All(c)
	if got := Missing(c, all); !slices.Equal(got, []int{1}) {
		t.Error(got)
	}
}

// Consequences: what is right and enough proves that it is dead, and with Fence it stays proof.
func TestProof(t *testing.T) {
	r := rand.New(rand.NewSource(1))
	proofs := 0
	for range 3000 {
		c, _ := cluster.New(1+r.Intn(2), api.BitOld, r.Intn(4) > 0)
		event := func(bits int) {
			x := api.ReplicaEvent{Kind: 1 + r.Intn(4), Replica: r.Intn(len(c.Replicas))}
			switch x.Kind {
			case api.ReplicaPublish:
				x = api.ReplicaEvent{Kind: x.Kind, Bits: bits}
			case api.ReplicaRestore:
				x.Snapshot = r.Intn(len(c.Snapshots) + 1)
			}
			if next, e := cluster.Apply(c, x); e == api.OK {
				c = next
			}
		}
		for range 12 {
			event(1 + r.Intn(2))
		}
		all, _ := All(c)
		if !Enough(c, all) {
			continue
		}
		proofs++
		if !cluster.Dead(c, api.BitOld) {
			t.Fatal(c)
		}
		for range 8 {
			event(api.BitNew)
			if c.Fence && (!cluster.Dead(c, api.BitOld) || !Enough(c, all)) {
				t.Fatal(c)
			}
		}
	}
	if proofs < 300 {
		t.Error(proofs)
	}
}
