package history

import (
	"math/rand"
	"slices"
	"strconv"
	"testing"

	"leakresponse/api"
	"leakresponse/object"
)

func blob(id int) api.Object {
	return api.Object{ID: id, Kind: api.ObjectBlob, Data: []byte{byte(id)}}
}

func tree(id int, ids ...int) api.Object {
	o := api.Object{ID: id, Kind: api.ObjectTree}
	for i, x := range ids {
		o.Items = append(o.Items, api.Item{Name: "n" + strconv.Itoa(100+i), ID: x})
	}
	return o
}

func commit(id, t int, parents ...int) api.Object {
	return api.Object{ID: id, Kind: api.ObjectCommit, Tree: t, Parents: parents, Author: "a"}
}

func set(t int, name string, c int) api.RefEvent {
	return api.RefEvent{Kind: api.RefSet, Name: name, Commit: c, Time: t}
}

func del(t int, name string) api.RefEvent {
	return api.RefEvent{Kind: api.RefDelete, Name: name, Time: t}
}

func repo(o []api.Object, e ...api.RefEvent) api.Repository {
	return api.Repository{Objects: o, Events: e}
}

// P15.1
func TestValid(t *testing.T) {
	base := []api.Object{blob(1), tree(2, 1), commit(3, 2), commit(4, 2, 3)}
	and := func(l ...api.Object) []api.Object { return append(slices.Clone(base), l...) }
	var many []api.Object
	for i := range 401 {
		many = append(many, blob(i+1))
	}
	var events, names []api.RefEvent
	for i := range 301 {
		events = append(events, set(i, "main", 3))
	}
	for i := range 33 {
		names = append(names, set(5, "n"+strconv.Itoa(i), 3))
	}
	wrong := set(5, "a b", 3)
	for i, c := range []struct {
		r api.Repository
		e api.Errno
	}{
		{repo(nil), 0}, {repo(base, set(0, "main", 3), set(0, "main", 4), del(api.MaxTime, "main")), 0}, {repo(many[:400]), 0}, {repo(many), api.ErrLimit}, {repo(base, events[:300]...), 0}, {repo(base, events...), api.ErrLimit}, {repo(many, wrong), api.ErrLimit},
		{repo(and(api.Object{ID: 9}), wrong), api.ErrInvalid}, {repo(and(blob(0))), api.ErrInvalid}, {repo(and(blob(1)), wrong), api.ErrInvalid}, {repo(base, api.RefEvent{Kind: 3, Name: "a", Commit: 3}), api.ErrInvalid}, {repo(base, set(1, "main", 3), api.RefEvent{Kind: api.RefDelete, Name: "main", Commit: 3, Time: 2}), api.ErrInvalid},
		{repo(and(blob(1), tree(9, 77))), api.ErrExists}, {repo(and(tree(9, 77))), api.ErrMissing}, {repo(and(tree(9, 3))), api.ErrMissing}, {repo(and(commit(9, 1))), api.ErrMissing}, {repo(and(commit(9, 3))), api.ErrMissing}, {repo(and(commit(9, 2, 2))), api.ErrMissing}, {repo(and(commit(9, 2, 77))), api.ErrMissing},
		{repo(base, set(1, "main", 2)), api.ErrMissing}, {repo(base, set(1, "main", 0)), api.ErrMissing}, {repo(base, del(1, "main")), api.ErrMissing}, {repo(base, set(1, "main", 3), del(1, "main"), del(2, "main")), api.ErrMissing}, {repo(and(tree(9, 9), tree(10, 77))), api.ErrMissing},
		{repo(and(tree(9, 9)), set(-1, "main", 3)), api.ErrCycle}, {repo(and(tree(9, 10), tree(10, 1, 9))), api.ErrCycle}, {repo(and(commit(9, 2, 3, 11), commit(10, 2, 9), commit(11, 2, 10))), api.ErrCycle}, {repo(and(commit(9, 2, 9))), api.ErrCycle},
		{repo(base, set(5, "main", 3), set(-1, "main", 3)), api.ErrRange}, {repo(base, set(api.MaxTime+1, "main", 3)), api.ErrRange}, {repo(base, set(5, "main", 3), set(4, "main", 3)), api.ErrOrder},
		{repo(base, names[:32]...), 0}, {repo(base, names...), api.ErrLimit}, {repo(base, append(slices.Clone(names), set(4, "x", 3))...), api.ErrOrder}, {repo(base, append(append(slices.Clone(names[:32]), del(5, "n0")), names[32])...), 0},
	} {
		if e := Valid(c.r); e != c.e {
			t.Error(i, e, c.e)
		}
		if c.e == api.OK {
			continue
		}
		_, ok := Since(c.r, 1)
		_, there := Find(c.r, 1)
		if ok || there || len(Refs(c.r, 9))+len(Reachable(c.r, 9))+len(Ever(c.r))+len(Lost(c.r, 9)) > 0 {
			t.Error(i, "something of a repository that is not valid")
		}
	}
}

// slow is what is reachable at a time, by its definition.
func slow(r api.Repository, t int) (map[string]int, []int) {
	refs := map[string]int{}
	for _, e := range r.Events {
		if e.Time <= t && e.Kind == api.RefSet {
			refs[e.Name] = e.Commit
		} else if e.Time <= t {
			delete(refs, e.Name)
		}
	}
	seen := map[int]bool{}
	for _, id := range refs {
		seen[id] = true
	}
	for again := true; again; {
		again = false
		for _, o := range r.Objects {
			l := append([]int{o.Tree}, o.Parents...)
			for _, x := range o.Items {
				l = append(l, x.ID)
			}
			for _, id := range l {
				if seen[o.ID] && id > 0 && !seen[id] {
					seen[id], again = true, true
				}
			}
		}
	}
	var out []int
	for id := range seen {
		out = append(out, id)
	}
	slices.Sort(out)
	return refs, out
}

func random(r *rand.Rand) api.Repository {
	var out api.Repository
	var kinds [4][]int
	for id := 1; id < 14; id++ {
		pick := func(l []int) []int {
			var some []int
			for _, x := range l {
				if r.Intn(3) == 0 && len(some) < 8 {
					some = append(some, x)
				}
			}
			return some
		}
		o := blob(id)
		switch k := r.Intn(4); {
		case id == 2 || k == 1:
			o = tree(id, append(pick(kinds[1]), pick(kinds[2])...)...)
		case id > 2 && k > 1:
			o = commit(id, kinds[2][r.Intn(len(kinds[2]))], pick(kinds[3])...)
		}
		kinds[o.Kind] = append(kinds[o.Kind], id)
		out.Objects = append(out.Objects, o)
	}
	at := 0
	for range r.Intn(10) {
		at += r.Intn(3)
		name := string("abc"[r.Intn(3)])
		refs, _ := slow(out, at)
		if _, ok := refs[name]; ok && r.Intn(3) == 0 {
			out.Events = append(out.Events, del(at, name))
		} else if len(kinds[3]) > 0 {
			out.Events = append(out.Events, set(at, name, kinds[3][r.Intn(len(kinds[3]))]))
		}
	}
	r.Shuffle(len(out.Objects), func(i, k int) { out.Objects[i], out.Objects[k] = out.Objects[k], out.Objects[i] })
	return out
}

// P15.2
func TestReachable(t *testing.T) {
	rnd := rand.New(rand.NewSource(1))
	for range 300 {
		r := random(rnd)
		if e := Valid(r); e != api.OK {
			t.Fatal(e, r)
		}
		since := map[int]int{}
		for at := -1; at < 25; at++ {
			refs, want := slow(r, at)
			if got := Reachable(r, at); !slices.Equal(got, want) {
				t.Fatal(at, got, want)
			}
			got := Refs(r, at)
			for i, x := range got {
				if refs[x.Name] != x.ID || i > 0 && x.Name <= got[i-1].Name {
					t.Fatal(at, got, refs)
				}
			}
			if len(got) != len(refs) {
				t.Fatal(at, got, refs)
			}
			var lost []int
			for id := 1; id < 14; id++ {
				_, before := since[id]
				now := slices.Contains(want, id)
				if now && !before {
					since[id] = at
				}
				if before && !now {
					lost = append(lost, id)
				}
			}
			if got := Lost(r, at); !slices.Equal(got, lost) {
				t.Fatal(at, got, lost)
			}
		}
		var ever []int
		for id := 0; id < 15; id++ {
			at, ok := Since(r, id)
			want, there := since[id]
			if ok != there || at != want {
				t.Fatal(id, at, ok, want)
			}
			if ok {
				ever = append(ever, id)
			}
		}
		if got := Ever(r); !slices.Equal(got, ever) {
			t.Fatal(got, ever)
		}
	}
}

// P15.2
func TestExample(t *testing.T) {
	r := repo([]api.Object{blob(1), tree(2, 1), commit(3, 2), tree(4), commit(5, 4)}, set(5, "main", 3), set(9, "main", 5))
	if !slices.Equal(Reachable(r, 8), []int{1, 2, 3}) || !slices.Equal(Reachable(r, 9), []int{4, 5}) || !slices.Equal(Lost(r, 9), []int{1, 2, 3}) || len(Reachable(r, 4)) > 0 {
		t.Error("a commit that is replaced")
	}
	// What happens at the same time as something later counts only with it.
	r = repo(r.Objects, set(5, "main", 3), set(5, "main", 5))
	if _, ok := Since(r, 3); ok || !slices.Equal(Ever(r), []int{4, 5}) {
		t.Error("two events of one time")
	}
}

// P15.2
func TestFind(t *testing.T) {
	r := repo([]api.Object{blob(1), tree(2, 1), commit(3, 2), commit(4, 2, 3)})
	for _, want := range r.Objects {
		got, ok := Find(r, want.ID)
		if !ok || !object.Same(got, want) {
			t.Error(got, ok)
		}
		clear(got.Data)
		clear(got.Items)
		clear(got.Parents)
		if again, _ := Find(r, want.ID); len(again.Data) > 0 && again.Data[0] != 1 || len(again.Items) > 0 && again.Items[0].ID != 1 || len(again.Parents) > 0 && again.Parents[0] != 3 {
			t.Error("shared memory")
		}
	}
	if o, ok := Find(r, 5); ok || !object.Same(o, api.Object{}) {
		t.Error(o)
	}
}
