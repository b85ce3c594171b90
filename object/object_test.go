package object

import (
	"slices"
	"strconv"
	"strings"
	"testing"

	"leakresponse/api"
)

func blob(id int, s string) api.Object {
	return api.Object{ID: id, Kind: api.ObjectBlob, Data: []byte(s)}
}

func tree(id int, l ...api.Item) api.Object {
	return api.Object{ID: id, Kind: api.ObjectTree, Items: l}
}

func commit(id int, parents ...int) api.Object {
	return api.Object{ID: id, Kind: api.ObjectCommit, Tree: 2, Parents: parents, Author: "ann", Time: 5}
}

func with(o api.Object, change func(o *api.Object)) api.Object {
	change(&o)
	return o
}

func items(n int) []api.Item {
	var l []api.Item
	for i := range n {
		l = append(l, api.Item{Name: "n" + strconv.Itoa(100+i), ID: 1 + i})
	}
	return l
}

// P13.1
func TestValid(t *testing.T) {
	long := strings.Repeat("x", api.MaxBytes+1)
	ids := []int{1, 2, 3, 4, 5, 6, 7, 8, 9}
	for i, c := range []struct {
		o api.Object
		e api.Errno
	}{
		{blob(1, ""), 0}, {blob(1<<30, "x"), 0}, {blob(0, ""), api.ErrRange}, {blob(-1, ""), api.ErrRange}, {blob(1<<30+1, long), api.ErrRange}, {blob(1, long[1:]), 0}, {blob(1, long), api.ErrLimit},
		{api.Object{ID: 1}, api.ErrInvalid}, {api.Object{ID: 1, Kind: 4}, api.ErrInvalid}, {api.Object{ID: 1, Kind: 4, Data: []byte(long)}, api.ErrLimit},
		{tree(1), 0}, {tree(1, items(64)...), 0}, {tree(1, items(65)...), api.ErrLimit}, {tree(1, api.Item{Name: "a", ID: 1}, api.Item{Name: "a", ID: 2}), api.ErrInvalid}, {tree(1, api.Item{Name: "b", ID: 1}, api.Item{Name: "a", ID: 2}), api.ErrInvalid},
		{tree(1, api.Item{Name: "a", ID: 1}, api.Item{Name: "b", ID: 1}), 0}, {tree(1, api.Item{Name: "Z", ID: 1}, api.Item{Name: "a", ID: 1}), 0}, {tree(1, api.Item{Name: "a", ID: 0}), api.ErrInvalid}, {tree(1, api.Item{Name: "a", ID: 1<<30 + 1}), api.ErrInvalid}, {tree(1, api.Item{Name: "a/b", ID: 1}), api.ErrInvalid}, {tree(1, api.Item{ID: 1}), api.ErrInvalid},
		{commit(1), 0}, {commit(1, ids[:8]...), 0}, {commit(1, ids...), api.ErrLimit}, {commit(1, 3, 3), api.ErrInvalid}, {commit(1, 0), api.ErrInvalid}, {commit(1, 1<<30+1), api.ErrInvalid}, {commit(1, 9, 2), 0},
		{with(commit(1), func(o *api.Object) { o.Tree = 0 }), api.ErrInvalid}, {with(commit(1), func(o *api.Object) { o.Tree = 1<<30 + 1 }), api.ErrInvalid}, {with(commit(1), func(o *api.Object) { o.Author = "" }), api.ErrInvalid}, {with(commit(1), func(o *api.Object) { o.Author = "a b" }), api.ErrInvalid},
		{with(commit(1), func(o *api.Object) { o.Time = -1 }), api.ErrInvalid}, {with(commit(1), func(o *api.Object) { o.Time = 0 }), 0}, {with(commit(1), func(o *api.Object) { o.Time = api.MaxTime }), 0}, {with(commit(1), func(o *api.Object) { o.Time = api.MaxTime + 1 }), api.ErrInvalid},
		{with(commit(1), func(o *api.Object) { o.Data = []byte("x") }), api.ErrInvalid}, {with(commit(1), func(o *api.Object) { o.Items = items(1) }), api.ErrInvalid},
		{with(blob(1, ""), func(o *api.Object) { o.Items = items(1) }), api.ErrInvalid}, {with(blob(1, ""), func(o *api.Object) { o.Tree = 1 }), api.ErrInvalid}, {with(blob(1, ""), func(o *api.Object) { o.Parents = ids[:1] }), api.ErrInvalid}, {with(blob(1, ""), func(o *api.Object) { o.Parents = ids }), api.ErrLimit}, {with(blob(1, ""), func(o *api.Object) { o.Author = "a" }), api.ErrInvalid}, {with(blob(1, ""), func(o *api.Object) { o.Time = 1 }), api.ErrInvalid},
		{with(tree(1), func(o *api.Object) { o.Data = []byte("x") }), api.ErrInvalid}, {with(tree(1), func(o *api.Object) { o.Time = 1 }), api.ErrInvalid}, {with(tree(1), func(o *api.Object) { o.Data = []byte{}; o.Parents = []int{} }), 0},
	} {
		if e := Valid(c.o); e != c.e {
			t.Error(i, e, c.e)
		}
		b, e := Format(c.o)
		if e != c.e {
			t.Error(i, e, c.e)
		}
		if again, f := Parse(c.o.ID, b); e == api.OK && (f != api.OK || !Same(again, c.o)) {
			t.Error(i, f)
		}
	}
}

// P13.1
func TestName(t *testing.T) {
	for s, want := range map[string]bool{"": false, "a": true, "a!b.txt": true, "a/b": false, "a b": false, "\x7f": false, strings.Repeat("x", 40): true, strings.Repeat("x", 41): false} {
		if Name(s) != want {
			t.Errorf("%q", s)
		}
	}
	l := []api.Object{{}, blob(1, ""), blob(2, ""), blob(1, "x"), tree(1), tree(1, items(1)...), commit(1), commit(1, 2), commit(1, 3), with(commit(1), func(o *api.Object) { o.Tree = 7 }), with(commit(1), func(o *api.Object) { o.Author = "x" }), with(commit(1), func(o *api.Object) { o.Time = 9 })}
	for i := range l {
		for k := range l {
			if Same(l[i], l[k]) != (i == k) {
				t.Error(i, k)
			}
		}
	}
}

// P13.2
func TestFormat(t *testing.T) {
	for want, o := range map[string]api.Object{
		"blob\n": blob(1, ""), "blob\na\nb": blob(1, "a\nb"), "tree\n": tree(1), "tree\n3 a.txt\n4 b\n": tree(1, api.Item{Name: "a.txt", ID: 3}, api.Item{Name: "b", ID: 4}),
		"commit\ntree 2\nauthor ann\ntime 5\n": commit(1), "commit\ntree 2\nparent 9\nparent 8\nauthor ann\ntime 5\n": commit(1, 9, 8),
	} {
		if b, e := Format(o); string(b) != want || e != api.OK {
			t.Errorf("%q, %d", b, e)
		}
		b := []byte(want)
		got, e := Parse(1, b)
		clear(b)
		if !Same(got, o) || e != api.OK {
			t.Errorf("%q: %v, %d", want, got, e)
		}
	}
	for _, s := range []string{"", "blob", "blob ", "Blob\n", "blob\r\n", "tree", "tree\n\n", "tree\n3 a", "tree\n3  a\n", "tree\n03 a\n", "tree\n0 a\n", "tree\n3 a/b\n", "tree\n3\n", "tree\n3 b\n4 a\n", "tree\nx a\n", "commit\n", "commit\ntree 2\nauthor ann\n", "commit\ntree 2\ntime 5\nauthor ann\n", "commit\nauthor ann\ntree 2\ntime 5\n", "commit\ntree 2\nauthor ann\ntime 5", "commit\ntree 2\nauthor ann\ntime 5\n\n",
		"commit\ntree 2\nauthor ann\ntime 05\n", "commit\ntree 2\nparent 3\nparent 3\nauthor ann\ntime 5\n", "commit\ntree 2\ntree 2\nauthor ann\ntime 5\n", "commit\ntree 2\nauthor a b\ntime 5\n", "commit\ntree 2\nauthor ann\ntime 5\nwhat 7\n", "commit\ntree 2\nauthor ann\ntime -5\n", "blob\n" + strings.Repeat("x", api.MaxBytes+1)} {
		if o, e := Parse(1, []byte(s)); e != api.ErrPack || !Same(o, api.Object{}) {
			t.Errorf("%.40q: %d", s, e)
		}
	}
	for _, id := range []int{0, -1, 1<<30 + 1} {
		if _, e := Parse(id, []byte("x")); e != api.ErrRange {
			t.Error(id, e)
		}
	}
	if o, e := Parse(1<<30, []byte("tree\n")); o.ID != 1<<30 || e != api.OK || !slices.Equal(o.Items, nil) {
		t.Error(e)
	}
}
