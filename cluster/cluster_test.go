package cluster

import (
	"math/rand"
	"slices"
	"testing"

	"leakresponse/api"
)

func publish(bits int) api.ReplicaEvent {
	return api.ReplicaEvent{Kind: api.ReplicaPublish, Bits: bits}
}
func syncOf(r int) api.ReplicaEvent   { return api.ReplicaEvent{Kind: api.ReplicaSync, Replica: r} }
func snapshot(r int) api.ReplicaEvent { return api.ReplicaEvent{Kind: api.ReplicaSnapshot, Replica: r} }
func restore(r, s int) api.ReplicaEvent {
	return api.ReplicaEvent{Kind: api.ReplicaRestore, Replica: r, Snapshot: s}
}

func same(a, b api.Cluster) bool {
	return a.Fence == b.Fence && slices.Equal(a.Sets, b.Sets) && slices.Equal(a.Replicas, b.Replicas) && slices.Equal(a.Snapshots, b.Snapshots)
}

// P36.1
func TestCheck(t *testing.T) {
	one := []api.Replica{{}}
	for i, c := range []struct {
		c  api.Cluster
		ok bool
	}{
		{api.Cluster{Sets: []int{0}, Replicas: one}, true}, {api.Cluster{Sets: []int{3, 1}, Replicas: []api.Replica{{Generation: 1}}, Snapshots: []int{0, 1}}, true}, {api.Cluster{Sets: []int{0}}, false}, {api.Cluster{Replicas: one}, false}, {api.Cluster{}, false},
		{api.Cluster{Sets: []int{0}, Replicas: slices.Repeat(one, 5)}, true}, {api.Cluster{Sets: []int{0}, Replicas: slices.Repeat(one, 6)}, false}, {api.Cluster{Sets: make([]int, 121), Replicas: one, Snapshots: make([]int, 120)}, true}, {api.Cluster{Sets: make([]int, 122), Replicas: one}, false}, {api.Cluster{Sets: []int{0}, Replicas: one, Snapshots: make([]int, 121)}, false},
		{api.Cluster{Sets: []int{4}, Replicas: one}, false}, {api.Cluster{Sets: []int{-1}, Replicas: one}, false}, {api.Cluster{Sets: []int{0}, Replicas: []api.Replica{{Generation: 1}}}, false}, {api.Cluster{Sets: []int{0}, Replicas: []api.Replica{{Generation: -1}}}, false}, {api.Cluster{Sets: []int{0}, Replicas: one, Snapshots: []int{1}}, false}, {api.Cluster{Sets: []int{0}, Replicas: one, Snapshots: []int{-1}}, false},
	} {
		e := Check(c.c)
		if (e == api.OK) != c.ok || e != api.OK && e != api.ErrReplica {
			t.Error(i, e)
		}
		if c.ok {
			continue
		}
		x, e1 := Apply(c.c, publish(1))
		y, n, e2 := Run(c.c, make([]api.ReplicaEvent, 121))
		l, ok := Revives(c.c, 1)
		if e1 != api.ErrReplica || e2 != api.ErrReplica || n != 0 || !same(x, api.Cluster{}) || !same(y, api.Cluster{}) || ok || len(l) > 0 || Accepts(c.c, 0, 1) || Dead(c.c, 1) {
			t.Error(i, "something of a cluster that is not valid")
		}
	}
	for n := -1; n < 8; n++ {
		for bits := -1; bits < 6; bits++ {
			c, e := New(n, bits, bits%2 == 0)
			ok := n >= 1 && n <= 5 && bits >= 0 && bits <= 3
			want := api.Cluster{}
			if ok {
				want = api.Cluster{Fence: bits%2 == 0, Sets: []int{bits}, Replicas: slices.Repeat([]api.Replica{{Serving: true}}, n)}
			}
			if (e == api.OK) != ok || e != api.OK && e != api.ErrReplica || !same(c, want) {
				t.Error(n, bits, c, e)
			}
		}
	}
	if _, e := New(1<<60, 1, true); e != api.ErrReplica {
		t.Error(e)
	}
}

// P36.2
func TestApply(t *testing.T) {
	base := api.Cluster{Sets: []int{1, 2}, Replicas: []api.Replica{{Generation: 0, Serving: true}, {Generation: 1}}, Snapshots: []int{1, 0}}
	with := func(f func(c *api.Cluster)) api.Cluster {
		c := api.Cluster{Sets: slices.Clone(base.Sets), Replicas: slices.Clone(base.Replicas), Snapshots: slices.Clone(base.Snapshots)}
		f(&c)
		return c
	}
	fence := with(func(c *api.Cluster) { c.Fence = true })
	full := with(func(c *api.Cluster) { c.Sets = make([]int, 121) })
	kept := with(func(c *api.Cluster) { c.Snapshots = make([]int, 120) })
	none := api.Cluster{}
	for i, c := range []struct {
		c    api.Cluster
		x    api.ReplicaEvent
		want api.Cluster
		e    api.Errno
	}{
		{base, publish(3), with(func(c *api.Cluster) { c.Sets = []int{1, 2, 3} }), 0}, {base, publish(0), with(func(c *api.Cluster) { c.Sets = []int{1, 2, 0} }), 0}, {base, publish(4), none, api.ErrReplica}, {base, publish(-1), none, api.ErrReplica}, {full, publish(1), none, api.ErrLimit}, {full, publish(4), none, api.ErrReplica},
		{base, syncOf(0), with(func(c *api.Cluster) { c.Replicas[0].Generation = 1 }), 0}, {base, syncOf(1), with(func(c *api.Cluster) { c.Replicas[1].Serving = true }), 0}, {base, syncOf(2), none, api.ErrReplica}, {base, syncOf(-1), none, api.ErrReplica},
		{base, snapshot(1), with(func(c *api.Cluster) { c.Snapshots = []int{1, 0, 1} }), 0}, {base, snapshot(2), none, api.ErrReplica}, {kept, snapshot(1), none, api.ErrLimit}, {kept, snapshot(-1), none, api.ErrReplica},
		{base, restore(1, 1), with(func(c *api.Cluster) { c.Replicas[1] = api.Replica{Serving: true} }), 0}, {fence, restore(0, 0), with(func(c *api.Cluster) { c.Fence = true; c.Replicas[0] = api.Replica{Generation: 1} }), 0}, {base, restore(0, 2), none, api.ErrReplica}, {base, restore(0, -1), none, api.ErrReplica}, {base, restore(2, 0), none, api.ErrReplica},
		{base, api.ReplicaEvent{}, none, api.ErrReplica}, {base, api.ReplicaEvent{Kind: 5}, none, api.ErrReplica}, {base, api.ReplicaEvent{Kind: 1, Replica: 1}, none, api.ErrReplica}, {base, api.ReplicaEvent{Kind: 1, Snapshot: 1}, none, api.ErrReplica}, {base, api.ReplicaEvent{Kind: 2, Snapshot: 1}, none, api.ErrReplica}, {base, api.ReplicaEvent{Kind: 2, Bits: 1}, none, api.ErrReplica}, {base, api.ReplicaEvent{Kind: 3, Snapshot: 1}, none, api.ErrReplica}, {base, api.ReplicaEvent{Kind: 3, Bits: 1}, none, api.ErrReplica}, {base, api.ReplicaEvent{Kind: 4, Bits: 1}, none, api.ErrReplica},
	} {
		got, e := Apply(c.c, c.x)
		if e != c.e || !same(got, c.want) {
			t.Error(i, got, e)
		}
		run, n, e := Run(c.c, []api.ReplicaEvent{c.x})
		if c.e != api.OK {
			c.want = c.c
		}
		if e != c.e || !same(run, c.want) || (n == 1) != (e == api.OK) {
			t.Error(i, run, n, e)
		}
		if e == api.OK {
			got.Sets[0], got.Replicas[0].Generation, got.Snapshots[0] = 9, 9, 9
		}
	}
	if base.Snapshots[0] != 1 || base.Sets[0] != 1 || base.Replicas[0].Generation != 0 || fence.Sets[0] != 1 {
		t.Error("shared memory")
	}
	c, n, e := Run(base, []api.ReplicaEvent{publish(0), syncOf(0), syncOf(7), publish(1)})
	if n != 2 || e != api.ErrReplica || len(c.Sets) != 3 || c.Replicas[0].Generation != 2 {
		t.Error(c, n, e)
	}
	if c, n, e := Run(base, slices.Repeat([]api.ReplicaEvent{syncOf(0)}, 121)); n != 0 || e != api.ErrLimit || !same(c, api.Cluster{}) {
		t.Error(n, e)
	}
	if _, n, e := Run(base, slices.Repeat([]api.ReplicaEvent{syncOf(0)}, 120)); n != 120 || e != api.OK {
		t.Error(n, e)
	}
	c, _, _ = Run(base, nil)
	c.Sets[0] = 9
	if base.Sets[0] != 1 {
		t.Error("shared memory")
	}
}

// revivable tries all events but publications, as deep as two steps, which are enough.
func revivable(c api.Cluster, bit, deep int) bool {
	for i := range c.Replicas {
		if Accepts(c, i, bit) {
			return true
		}
	}
	if deep == 0 {
		return false
	}
	for i := range c.Replicas {
		l := []api.ReplicaEvent{syncOf(i), snapshot(i)}
		for s := range c.Snapshots {
			l = append(l, restore(i, s))
		}
		for _, x := range l {
			if next, e := Apply(c, x); e == api.OK && revivable(next, bit, deep-1) {
				return true
			}
		}
	}
	return false
}

// P36.1 and P36.3
func TestRevives(t *testing.T) {
	r := rand.New(rand.NewSource(1))
	seen := map[bool]int{}
	for round := range 2000 {
		c := api.Cluster{Fence: r.Intn(2) == 0}
		for range 1 + r.Intn(3) {
			c.Sets = append(c.Sets, r.Intn(4))
		}
		for range 1 + r.Intn(2) {
			c.Replicas = append(c.Replicas, api.Replica{Generation: r.Intn(len(c.Sets)), Serving: r.Intn(3) == 0})
		}
		for range r.Intn(3) {
			c.Snapshots = append(c.Snapshots, r.Intn(len(c.Sets)))
		}
		if round%100 == 0 && len(c.Snapshots) > 0 {
			c.Snapshots = slices.Repeat(c.Snapshots[:1], 120)
		}
		for bit := -1; bit < 5; bit++ {
			is := bit == api.BitOld || bit == api.BitNew
			some := false
			for i := -1; i <= len(c.Replicas); i++ {
				want := is && i >= 0 && i < len(c.Replicas) && c.Replicas[i].Serving && c.Sets[c.Replicas[i].Generation]&bit != 0
				some = some || want
				if Accepts(c, i, bit) != want {
					t.Fatal(c, i, bit)
				}
			}
			if Dead(c, bit) != (is && !some && c.Sets[len(c.Sets)-1]&bit == 0) {
				t.Fatal(c, bit)
			}
			l, ok := Revives(c, bit)
			want := is && revivable(c, bit, 2)
			seen[want] += 1
			if ok != want || !ok && len(l) > 0 || some && len(l) > 0 {
				t.Fatal(c, bit, l, ok)
			}
			if !ok {
				continue
			}
			after, _, e := Run(c, l)
			if e != api.OK || !revivable(after, bit, 0) || slices.ContainsFunc(l, func(x api.ReplicaEvent) bool { return x.Kind == api.ReplicaPublish }) {
				t.Fatal(c, bit, l)
			}
		}
	}
	if seen[true] < 100 || seen[false] < 100 {
		t.Error(seen)
	}
}

// P36.3: the example.
func TestExample(t *testing.T) {
	for _, fence := range []bool{false, true} {
		c, _ := New(2, api.BitOld, fence)
		c, _, e := Run(c, []api.ReplicaEvent{snapshot(0), publish(api.BitNew), syncOf(0), syncOf(1)})
		if e != api.OK || !Dead(c, api.BitOld) || Dead(c, api.BitNew) {
			t.Error(c, e)
		}
		if _, ok := Revives(c, api.BitOld); ok == fence {
			t.Error(fence)
		}
		c, _, _ = Run(c, []api.ReplicaEvent{restore(1, 0)})
		if Accepts(c, 1, api.BitOld) == fence || Dead(c, api.BitOld) != fence {
			t.Error(fence)
		}
	}
}
