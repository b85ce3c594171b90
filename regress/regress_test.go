package regress

import (
	"slices"
	"strings"
	"testing"

	"leakresponse/api"
	"leakresponse/finding"
	"leakresponse/rule"
)

func rules(t *testing.T, s string) []api.Rule {
	l, e := rule.Parse(s)
	if e != api.OK {
		t.Fatal(s, e)
	}
	return l
}

func spot(path string, from int) api.Spot {
	return api.Spot{Place: api.Place{Path: path}, Layers: []api.Layer{{Coding: 1}}, From: from, To: from + 4}
}

var (
	kinds2 = []api.Kind{{Name: "one"}, {Name: "two"}}
	found  = []api.Finding{
		{Kind: 0, Fingerprint: 5, Where: []api.Spot{spot("docs/a", 0), spot("docs/a", 9), spot("src/b", 0)}},
		{Kind: 0, Fingerprint: 6, Where: []api.Spot{spot("docs/a", 5)}},
		{Kind: 1, Fingerprint: 5, Where: []api.Spot{spot("src/b", 7), spot("src/b c", 0), spot("src/c", 0)}},
		{Kind: 2, Fingerprint: 5, Where: []api.Spot{spot("docs/a", 0)}},
	}
	wrong = []api.Finding{{Kind: 1, Where: found[0].Where}, {Kind: 0, Where: found[0].Where}}
	bad   = []api.Rule{{Name: "A"}}
)

const docs = "keep: real if (kind \"one\" and print 6)\ndocs: false if path \"docs/\"\nnever: false if source 9\n"

// P22.1
func TestVerdicts(t *testing.T) {
	l := rules(t, docs)
	got, e := Verdicts(l, kinds2, found)
	want := [][]int{{2, 2, 1}, {1}, {1, 1, 1}, {2}}
	if e != api.OK || !slices.EqualFunc(got, want, slices.Equal[[]int]) {
		t.Error(got, e)
	}
	idle, e := Idle(l, kinds2, found)
	if e != api.OK || !slices.Equal(idle, []int{2}) {
		t.Error(idle, e)
	}
	if idle, e := Idle(l, kinds2, nil); e != api.OK || len(idle) != 3 {
		t.Error(idle, e)
	}
	open, e := Open(l, kinds2, found)
	if e != api.OK || !finding.Same(open, []api.Finding{{Kind: 0, Fingerprint: 5, Where: found[0].Where[2:]}, found[1], found[2]}) {
		t.Error(open, e)
	}
	if again, e := Open(l, kinds2, open); e != api.OK || !finding.Same(again, open) {
		t.Error("Open of Open")
	}
	open[0].Where[0].Layers[0].Coding = 9
	if found[0].Where[2].Layers[0].Coding != 1 {
		t.Error("shared memory")
	}
	if all, e := Open(nil, kinds2, found); e != api.OK || !finding.Same(all, found) {
		t.Error(e)
	}
	for _, c := range []struct {
		l []api.Rule
		f []api.Finding
		e api.Errno
	}{{bad, wrong, api.ErrSyntax}, {l, wrong, api.ErrInvalid}, {slices.Repeat(bad, 50), found, api.ErrLimit}} {
		a, e1 := Verdicts(c.l, kinds2, c.f)
		b, e2 := Open(c.l, kinds2, c.f)
		d, e3 := Idle(c.l, kinds2, c.f)
		if e1 != c.e || e2 != c.e || e3 != c.e || len(a)+len(b)+len(d) > 0 {
			t.Error(e1, e2, e3)
		}
	}
}

// P22.2
func TestChanges(t *testing.T) {
	l := rules(t, docs)
	after := rules(t, "src: false if ends \"b\"\nfirst: false if (path \"docs/\" and kind \"one\")\n")
	got, e := Changes(l, after, kinds2, found)
	want := []api.Change{{Finding: 0, Spot: 2, Before: 1, After: 2, RuleBefore: -1, By: 0}, {Finding: 1, Spot: 0, Before: 1, After: 2, RuleBefore: 0, By: 1}, {Finding: 2, Spot: 0, Before: 1, After: 2, RuleBefore: -1, By: 0}, {Finding: 3, Spot: 0, Before: 2, After: 1, RuleBefore: 1, By: -1}}
	if e != api.OK || !slices.Equal(got, want) {
		t.Error(got, e)
	}
	back, e := Changes(after, l, kinds2, found)
	for i := range want {
		w := want[i]
		if e != api.OK || len(back) != len(want) || back[i] != (api.Change{Finding: w.Finding, Spot: w.Spot, Before: w.After, After: w.Before, RuleBefore: w.By, By: w.RuleBefore}) {
			t.Error(back, e)
		}
	}
	if got, e := Changes(l, l, kinds2, found); e != api.OK || len(got) > 0 {
		t.Error(got, e)
	}
	short := []api.Rule{{}}
	short[0].Name = "a"
	for i, c := range []struct {
		before, after []api.Rule
		f             []api.Finding
		e             api.Errno
	}{{bad, short, wrong, api.ErrSyntax}, {short, bad, wrong, api.ErrInvalid}, {l, bad, wrong, api.ErrSyntax}, {l, l, wrong, api.ErrInvalid}} {
		if got, e := Changes(c.before, c.after, kinds2, c.f); e != c.e || len(got) > 0 {
			t.Error(i, e)
		}
	}
}

// P22.3
func TestInsert(t *testing.T) {
	l := rules(t, docs)
	all := rules(t, "all: false if not ((source 7 and source 8))\n")[0]
	for at := range 4 {
		got, e := Insert(l, all, at)
		if e != api.OK || len(got) != 4 || !rule.Same(got[at:at+1], []api.Rule{all}) || !rule.Same(slices.Delete(slices.Clone(got), at, at+1), l) {
			t.Error(at, e)
		}
		changes, e := Changes(l, got, kinds2, found)
		before, _ := Verdicts(l, kinds2, found)
		for _, c := range changes {
			if e != api.OK || c.By != at || c.After != api.VerdictFalse || c.Before != before[c.Finding][c.Spot] {
				t.Error(at, c)
			}
		}
		if at == 0 && len(changes) != 5 {
			t.Error(changes)
		}
		got[at].When.Kids[0].Kids[0].Number = 99
		got[(at+1)%4].When.Text = "x"
	}
	if all.When.Kids[0].Kids[0].Number != 7 || !rule.Same(l, rules(t, docs)) {
		t.Error("shared memory")
	}
	for i, c := range []struct {
		l  []api.Rule
		r  api.Rule
		at int
		e  api.Errno
	}{{l, bad[0], -1, api.ErrRange}, {l, bad[0], 4, api.ErrRange}, {l, bad[0], 1, api.ErrSyntax}, {l, l[0], 1, api.ErrExists}, {nil, all, 0, 0}, {bad, all, 0, api.ErrSyntax}} {
		if got, e := Insert(c.l, c.r, c.at); e != c.e || e != 0 && len(got) > 0 {
			t.Error(i, e)
		}
	}
	var many []api.Rule
	for i := range 40 {
		many = append(many, all)
		many[i].Name += string(rune('a'+i%26)) + string(rune('a'+i/26))
	}
	if _, e := Insert(many, all, 3); e != api.ErrLimit {
		t.Error(e)
	}
}

// P22.3
func TestExact(t *testing.T) {
	r, e := Exact(found, 0, 1, kinds2, "exact")
	if s, f := rule.Text([]api.Rule{r}); e != api.OK || f != api.OK || s != "exact: false if (kind \"one\" and print 5 and path \"docs/a\" and ends \"docs/a\")\n" {
		t.Error(s, e)
	}
	for i, x := range found {
		for k := range x.Where {
			if rule.Holds(r.When, kinds2, x, k) != (i == 0 && k < 2) {
				t.Error(i, k)
			}
		}
	}
	long := []api.Finding{{Where: []api.Spot{spot("", 0), spot(strings.Repeat("x", 40), 0), spot(strings.Repeat("x", 41), 0)}}}
	for i, c := range []struct {
		f             []api.Finding
		finding, spot int
		name          string
		e             api.Errno
	}{
		{wrong, 9, 9, "A", api.ErrInvalid}, {found, -1, 0, "A", api.ErrMissing}, {found, 4, 0, "A", api.ErrMissing}, {found, 0, 3, "A", api.ErrMissing}, {found, 0, -1, "A", api.ErrMissing}, {found, 3, 0, "A", api.ErrMissing},
		{found, 0, 0, "A", api.ErrSyntax}, {found, 2, 1, "a", api.ErrInvalid}, {long, 0, 0, "a", api.ErrInvalid}, {long, 0, 1, "a", 0}, {long, 0, 2, "a", api.ErrInvalid},
	} {
		if r, e := Exact(c.f, c.finding, c.spot, kinds2, c.name); e != c.e || e != 0 && !rule.Same([]api.Rule{r}, []api.Rule{{}}) {
			t.Error(i, e)
		}
	}
	if _, e := Exact([]api.Finding{{Kind: -1, Where: found[0].Where}}, 0, 0, kinds2, "a"); e != api.ErrMissing {
		t.Error(e)
	}
}
