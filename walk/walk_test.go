package walk

import (
	"slices"
	"strconv"
	"strings"
	"testing"

	"leakresponse/api"
)

func blob(id int, s string) api.Object {
	return api.Object{ID: id, Kind: api.ObjectBlob, Data: []byte(s)}
}

func tree(id int, items ...api.Item) api.Object {
	return api.Object{ID: id, Kind: api.ObjectTree, Items: items}
}

func item(name string, id int) api.Item { return api.Item{Name: name, ID: id} }

func commit(id, tree int, parents ...int) api.Object {
	return api.Object{ID: id, Kind: api.ObjectCommit, Tree: tree, Parents: parents, Author: "a"}
}

func set(t int, name string, c int) api.RefEvent {
	return api.RefEvent{Kind: api.RefSet, Name: name, Commit: c, Time: t}
}

var sample = api.Repository{
	Objects: []api.Object{
		blob(3, "three"), blob(1, "one"), blob(2, ""), tree(4, item("a", 3)), tree(5, item("d", 4), item("d!", 1), item("e", 1)), tree(6), tree(8, item("void", 6), item("x", 2)),
		commit(7, 5), commit(20, 5, 7), commit(9, 8), commit(30, 8),
	},
	Events: []api.RefEvent{set(5, "main", 7), set(9, "main", 20), set(9, "side", 9), {Kind: api.RefDelete, Name: "side", Time: 12}},
}

// P16.1
func TestPaths(t *testing.T) {
	for id, want := range map[int][]api.Item{7: {item("7:d!", 1), item("7:d/a", 3), item("7:e", 1)}, 9: {item("9:x", 2)}, 30: {item("30:x", 2)}} {
		if got, e := Paths(sample, id); e != api.OK || !slices.Equal(got, want) {
			t.Error(id, got, e)
		}
	}
	for _, id := range []int{0, 3, 5, 99, -1} {
		if got, e := Paths(sample, id); e != api.ErrMissing || len(got) > 0 {
			t.Error(id, got, e)
		}
	}
	bad := api.Repository{Objects: []api.Object{commit(7, 99)}}
	_, e := Paths(bad, 1)
	_, f := Contents(bad, 9)
	if e != api.ErrMissing || f != api.ErrMissing || len(Blobs(bad, 9)) > 0 {
		t.Error(e, f)
	}
	bad = api.Repository{Objects: []api.Object{blob(0, "")}}
	if _, e := Paths(bad, 1); e != api.ErrInvalid {
		t.Error(e)
	}
}

// P16.2
func TestContents(t *testing.T) {
	place := func(path string, t int) api.Place { return api.Place{Path: path, Time: t} }
	for at, want := range map[int][]api.Content{
		4:  nil,
		5:  {{Data: []byte("one"), Places: []api.Place{place("7:d!", 5), place("7:e", 5)}}, {Data: []byte("three"), Places: []api.Place{place("7:d/a", 5)}}},
		20: {{Data: []byte("one"), Places: []api.Place{place("7:d!", 5), place("7:e", 5), place("20:d!", 9), place("20:e", 9)}}, {Places: []api.Place{place("9:x", 9)}}, {Data: []byte("three"), Places: []api.Place{place("7:d/a", 5), place("20:d/a", 9)}}},
	} {
		got, e := Contents(sample, at)
		if e != api.OK || !slices.EqualFunc(got, want, func(x, y api.Content) bool {
			return string(x.Data) == string(y.Data) && slices.Equal(x.Places, y.Places)
		}) {
			t.Error(at, got, e)
		}
		for _, c := range got {
			clear(c.Data)
		}
	}
	if string(sample.Objects[0].Data) != "three" {
		t.Error("shared memory")
	}
	if !slices.Equal(Blobs(sample, 5), []int{1, 3}) || !slices.Equal(Blobs(sample, 12), []int{1, 2, 3}) || len(Blobs(sample, 4)) > 0 || len(Blobs(sample, -1)) > 0 {
		t.Error(Blobs(sample, 5), Blobs(sample, 12))
	}
}

// wide is a commit with a tree of 60 trees of so many blobs.
func wide(n, more int) api.Repository {
	r := api.Repository{Objects: []api.Object{blob(1, "x"), commit(2, 3), commit(4, 3), commit(6, 5)}}
	inner, outer, rest := tree(10), tree(3), tree(5)
	for i := range n {
		inner.Items = append(inner.Items, item("i"+strconv.Itoa(100+i), 1))
	}
	for i := range 50 {
		outer.Items = append(outer.Items, item("o"+strconv.Itoa(100+i), 10))
	}
	for i := range more {
		rest.Items = append(rest.Items, item("r"+strconv.Itoa(100+i), 1))
	}
	r.Objects = append(r.Objects, inner, outer, rest)
	return r
}

// P16.1 and P16.2: the bounds.
func TestLimit(t *testing.T) {
	if l, e := Paths(wide(40, 0), 2); e != api.OK || len(l) != 2000 {
		t.Error(e, len(l))
	}
	if l, e := Paths(wide(41, 0), 2); e != api.ErrLimit || len(l) > 0 {
		t.Error(e, len(l))
	}
	r := wide(20, 1)
	r.Events = []api.RefEvent{set(1, "a", 2), set(1, "b", 4), set(2, "c", 6)}
	if l, e := Contents(r, 1); e != api.OK || len(l) != 1 || len(l[0].Places) != 2000 {
		t.Error(e)
	}
	if l, e := Contents(r, 2); e != api.ErrLimit || len(l) > 0 {
		t.Error(e)
	}
	// Paths without number, but to no blob, beside one that has one.
	r = api.Repository{Objects: []api.Object{blob(1, "x"), tree(10), commit(2, 109)}}
	for i := 11; i < 110; i++ {
		r.Objects = append(r.Objects, tree(i, item("a", i-1), item("b", i-1)))
	}
	if l, e := Paths(r, 2); e != api.OK || len(l) != 0 {
		t.Error(e)
	}
	r.Objects[1] = tree(10, item("leaf", 1))
	if _, e := Paths(r, 2); e != api.ErrLimit {
		t.Error(e)
	}
	r.Objects = append(r.Objects, tree(200, item("deep", 109)), tree(201, item("x", 1)), commit(3, 201))
	if l, e := Paths(r, 3); e != api.OK || !slices.Equal(l, []api.Item{item("3:x", 1)}) {
		t.Error(e)
	}
	r = api.Repository{Objects: []api.Object{blob(1, "x"), tree(10, item("leaf", 1)), commit(2, 309)}}
	for i := 11; i < 310; i++ {
		r.Objects = append(r.Objects, tree(i, item("a", i-1)))
	}
	if l, e := Paths(r, 2); e != api.OK || len(l) != 1 || l[0].Name != "2:"+strings.Repeat("a/", 299)+"leaf" {
		t.Error(e)
	}
}
