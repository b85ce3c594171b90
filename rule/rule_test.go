package rule

import (
	"math"
	"math/rand"
	"slices"
	"strconv"
	"strings"
	"testing"

	"leakresponse/api"
)

func text(op int, s string) api.Term      { return api.Term{Op: op, Text: s} }
func number(op, n int) api.Term           { return api.Term{Op: op, Number: n} }
func kids(op int, l ...api.Term) api.Term { return api.Term{Op: op, Kids: l} }
func rule(name string, c api.Term) api.Rule {
	return api.Rule{Name: name, When: c, Verdict: api.VerdictFalse}
}
func with(c api.Term, f func(c *api.Term)) api.Term {
	f(&c)
	return c
}

var leaf = number(api.TermSource, 0)

func deep(n int) api.Term {
	c := leaf
	for range n {
		c = kids(api.TermNot, c)
	}
	return c
}

func wide(n int) api.Term { return kids(api.TermOr, slices.Repeat([]api.Term{leaf}, n)...) }

// P21.1
func TestTerm(t *testing.T) {
	endless := api.Term{Op: api.TermAnd, Kids: make([]api.Term, 2)}
	endless.Kids[0], endless.Kids[1] = endless, leaf
	for i, c := range []struct {
		c api.Term
		e api.Errno
	}{
		{text(api.TermKind, "x"), 0}, {text(api.TermPath, strings.Repeat("~", 40)), 0}, {text(api.TermEnds, "!#'"), 0}, {text(api.TermKind, ""), api.ErrInvalid}, {text(api.TermPath, strings.Repeat("~", 41)), api.ErrInvalid}, {text(api.TermEnds, "a\"b"), api.ErrInvalid}, {text(api.TermKind, "a b"), api.ErrInvalid}, {text(api.TermKind, "\x7f"), api.ErrInvalid},
		{leaf, 0}, {number(api.TermDepth, api.MaxTime), 0}, {number(api.TermLength, api.MaxTime+1), api.ErrInvalid}, {number(api.TermBefore, -1), api.ErrInvalid}, {api.Term{Op: api.TermFingerprint}, 0}, {api.Term{Op: api.TermFingerprint, Print: math.MaxUint64}, 0},
		{api.Term{}, api.ErrInvalid}, {api.Term{Op: 12}, api.ErrInvalid}, {with(text(api.TermKind, "x"), func(c *api.Term) { c.Number = 1 }), api.ErrInvalid}, {with(text(api.TermKind, "x"), func(c *api.Term) { c.Print = 1 }), api.ErrInvalid}, {with(text(api.TermKind, "x"), func(c *api.Term) { c.Kids = []api.Term{leaf} }), api.ErrInvalid},
		{with(leaf, func(c *api.Term) { c.Text = "x" }), api.ErrInvalid}, {with(leaf, func(c *api.Term) { c.Print = 1 }), api.ErrInvalid}, {with(leaf, func(c *api.Term) { c.Kids = []api.Term{leaf} }), api.ErrInvalid}, {api.Term{Op: api.TermFingerprint, Number: 1}, api.ErrInvalid}, {api.Term{Op: api.TermFingerprint, Text: "x"}, api.ErrInvalid},
		{kids(api.TermNot, leaf), 0}, {kids(api.TermNot), api.ErrInvalid}, {kids(api.TermNot, leaf, leaf), api.ErrInvalid}, {kids(api.TermAnd, leaf), api.ErrInvalid}, {kids(api.TermOr, leaf), api.ErrInvalid}, {kids(api.TermAnd, leaf, kids(api.TermAnd, leaf, leaf)), 0}, {kids(api.TermAnd, leaf, api.Term{}), api.ErrInvalid}, {with(kids(api.TermAnd, leaf, leaf), func(c *api.Term) { c.Number = 1 }), api.ErrInvalid}, {with(kids(api.TermNot, leaf), func(c *api.Term) { c.Text = "x" }), api.ErrInvalid},
		{wide(59), 0}, {wide(60), api.ErrLimit}, {deep(19), 0}, {deep(20), api.ErrDepth}, {deep(60), api.ErrLimit}, {kids(api.TermOr, deep(20), api.Term{}), api.ErrDepth}, {endless, api.ErrLimit},
	} {
		if e := Term(c.c); e != c.e {
			t.Error(i, e, c.e)
		}
		if c.e != api.OK && (Holds(c.c, nil, api.Finding{Where: make([]api.Spot, 1)}, 0)) {
			t.Error(i)
		}
	}
}

// P21.1
func TestValid(t *testing.T) {
	var many []api.Rule
	for i := range 41 {
		many = append(many, rule("r"+strconv.Itoa(i), leaf))
	}
	for i, c := range []struct {
		l []api.Rule
		e api.Errno
	}{
		{nil, 0}, {many[:40], 0}, {many, api.ErrLimit}, {[]api.Rule{rule("", leaf)}, api.ErrSyntax}, {[]api.Rule{rule("A", api.Term{})}, api.ErrSyntax}, {[]api.Rule{rule(strings.Repeat("a", 41), leaf)}, api.ErrSyntax}, {[]api.Rule{rule("a-0", leaf)}, 0},
		{[]api.Rule{rule("a", wide(60)), rule("A", leaf)}, api.ErrLimit}, {[]api.Rule{rule("a", deep(20))}, api.ErrDepth}, {[]api.Rule{rule("a", api.Term{})}, api.ErrInvalid}, {[]api.Rule{{Name: "a", When: leaf}, rule("A", leaf)}, api.ErrInvalid}, {[]api.Rule{{Name: "a", When: leaf, Verdict: 3}}, api.ErrInvalid},
		{[]api.Rule{rule("a", leaf), rule("a", leaf), rule("A", leaf)}, api.ErrSyntax}, {[]api.Rule{rule("a", leaf), rule("a", leaf)}, api.ErrExists},
	} {
		s, e := Text(c.l)
		if f := Valid(c.l); e != c.e || f != c.e || e != 0 && s != "" {
			t.Error(i, e, f, c.e)
		}
		v, by := Judge(c.l, nil, api.Finding{Where: make([]api.Spot, 1)}, 0)
		if c.e != 0 && (v != api.VerdictReal || by != -1) {
			t.Error(i, v, by)
		}
	}
}

var kinds2 = []api.Kind{{Name: "one"}, {Name: "two"}}

var found = api.Finding{Kind: 1, Fingerprint: 77, Where: []api.Spot{
	{Place: api.Place{Source: 3, Path: "docs/a.txt", Time: 9}, Layers: make([]api.Layer, 2), From: 10, To: 15},
	{Place: api.Place{Source: 0, Path: "", Time: -5}, From: math.MinInt, To: math.MaxInt}, {From: 5, To: 4}, {From: 5, To: 5},
}}

// P21.2
func TestHolds(t *testing.T) {
	for i, c := range []struct {
		c    api.Term
		want bool
	}{
		{text(api.TermKind, "two"), true}, {text(api.TermKind, "one"), false}, {text(api.TermPath, "docs/"), true}, {text(api.TermPath, "docs/a.txt"), true}, {text(api.TermPath, "a.txt"), false}, {text(api.TermEnds, ".txt"), true}, {text(api.TermEnds, "docs"), false},
		{number(api.TermSource, 3), true}, {number(api.TermSource, 2), false}, {number(api.TermDepth, 2), true}, {number(api.TermDepth, 3), false}, {number(api.TermDepth, 0), true}, {number(api.TermLength, 5), true}, {number(api.TermLength, 6), false}, {number(api.TermBefore, 10), true}, {number(api.TermBefore, 9), false},
		{api.Term{Op: api.TermFingerprint, Print: 77}, true}, {api.Term{Op: api.TermFingerprint, Print: 78}, false},
	} {
		yes, no := number(api.TermDepth, 0), kids(api.TermNot, number(api.TermDepth, 0))
		for k, x := range []struct {
			c    api.Term
			want bool
		}{{c.c, c.want}, {kids(api.TermNot, c.c), !c.want}, {kids(api.TermAnd, yes, c.c), c.want}, {kids(api.TermAnd, no, c.c), false}, {kids(api.TermAnd, c.c, no), false}, {kids(api.TermOr, yes, c.c), true}, {kids(api.TermOr, no, no, c.c), c.want}, {kids(api.TermOr, c.c, no), c.want}, {kids(api.TermAnd, c.c, yes, yes), c.want}} {
			if Holds(x.c, kinds2, found, 0) != x.want {
				t.Error(i, k)
			}
		}
		for _, spot := range []int{-1, 4} {
			if Holds(c.c, kinds2, found, spot) || Holds(kids(api.TermNot, c.c), kinds2, found, spot) {
				t.Error(i, spot)
			}
		}
	}
	first := found
	first.Kind = 0
	if !Holds(text(api.TermKind, "one"), kinds2, first, 0) {
		t.Error("the first kind")
	}
	for _, kind := range []int{-1, 2} {
		f := found
		f.Kind = kind
		if Holds(text(api.TermKind, "two"), kinds2, f, 0) || !Holds(kids(api.TermNot, text(api.TermKind, "two")), kinds2, f, 0) {
			t.Error("a kind without a name")
		}
	}
	if !Holds(number(api.TermLength, api.MaxTime), kinds2, found, 1) || Holds(number(api.TermLength, 0), kinds2, found, 2) || !Holds(number(api.TermLength, 0), kinds2, found, 3) || Holds(number(api.TermLength, 1), kinds2, found, 3) || !Holds(number(api.TermBefore, 0), kinds2, found, 1) {
		t.Error("numbers at their bounds")
	}
}

// P21.2
func TestJudge(t *testing.T) {
	l := []api.Rule{rule("a", text(api.TermPath, "src/")), {Name: "b", When: text(api.TermKind, "two"), Verdict: api.VerdictReal}, rule("c", number(api.TermDepth, 0)), rule("d", number(api.TermDepth, 0))}
	for i, c := range []struct{ from, spot, verdict, by int }{{0, 0, api.VerdictReal, 1}, {2, 0, api.VerdictFalse, 0}, {0, 4, api.VerdictReal, -1}, {0, -1, api.VerdictReal, -1}, {4, 0, api.VerdictReal, -1}} {
		if v, by := Judge(l[c.from:], kinds2, found, c.spot); v != c.verdict || by != c.by {
			t.Error(i, v, by)
		}
	}
	if v, by := Judge(l[:1], kinds2, found, 0); v != api.VerdictReal || by != -1 {
		t.Error(v, by)
	}
}

// P21.3
func TestText(t *testing.T) {
	l := []api.Rule{
		rule("docs", text(api.TermPath, "docs/")), {Name: "n-1", Verdict: api.VerdictReal, When: kids(api.TermNot, kids(api.TermAnd, text(api.TermKind, "a"), number(api.TermDepth, 2), kids(api.TermOr, text(api.TermEnds, "if"), leaf)))},
		rule("p", kids(api.TermOr, api.Term{Op: api.TermFingerprint, Print: math.MaxUint64}, number(api.TermLength, 0), kids(api.TermNot, number(api.TermBefore, api.MaxTime)))),
	}
	want := "docs: false if path \"docs/\"\nn-1: real if not ((kind \"a\" and depth 2 and (ends \"if\" or source 0)))\np: false if (print 18446744073709551615 or length 0 or not (before 1099511627776))\n"
	if s, e := Text(l); s != want || e != api.OK {
		t.Errorf("%s%d", s, e)
	}
	if got, e := Parse(want); !Same(got, l) || e != api.OK {
		t.Error(got, e)
	}
	if got, e := Parse(""); len(got) != 0 || e != api.OK {
		t.Error(got, e)
	}
	good := "a: real if source 0\n"
	if _, e := Parse(good); e != api.OK {
		t.Fatal(e)
	}
	for _, s := range []string{"\n", "a: real if source 0", good + "\n", good + good, " " + good, "A: real if source 0\n", "a:real if source 0\n", "a: maybe if source 0\n", "a: if source 0\n", "a: real source 0\n", "a: real if \n", "a: real if source\n", "a: real if source \n", "a: real if source 00\n", "a: real if source -1\n", "a: real if source 0 \n", "a: real if source  0\n", "a: real if source 1099511627777\n", "a: real if source \"0\"\n",
		"a: real if kind x\n", "a: real if kind \"\"\n", "a: real if kind \"x\n", "a: real if kind \"x\"\"\n", "a: real if kind \"x y\"\n", "a: real if kind 5\n", "a: real if what 5\n", "a: real if print -1\n", "a: real if print 01\n", "a: real if print 18446744073709551616\n", "a: real if print \"x\"\n",
		"a: real if not source 0\n", "a: real if not (source 0\n", "a: real if not(source 0)\n", "a: real if (source 0)\n", "a: real if (source 0 and source 1\n", "a: real if source 0 and source 1\n", "a: real if (source 0 and source 1 or source 2)\n", "a: real if (source 0 or source 1 and source 2)\n", "a: real if (source 0 and)\n", "a: real if ()\n",
		strings.Repeat("a: real if source 0\n", 41), "a: real if " + strings.Repeat("not (", 13000) + "\n", "a: real if " + strings.Repeat("(", 65000) + "\n", "a: real if " + strings.Repeat("not (", 20) + "source 0" + strings.Repeat(")", 20) + "\n"} {
		if l, e := Parse(s); e != api.ErrSyntax || len(l) > 0 {
			t.Errorf("%.60q: %d", s, e)
		}
	}
	if _, e := Parse(strings.Repeat("a", api.MaxBytes+1)); e != api.ErrLimit {
		t.Error(e)
	}
	if _, e := Parse(strings.Repeat("a", api.MaxBytes)); e != api.ErrSyntax {
		t.Error(e)
	}
}

func random(r *rand.Rand, deep int) api.Term {
	op := 1 + r.Intn(11)
	if deep == 0 {
		op = 1 + r.Intn(8)
	}
	switch {
	case op <= api.TermEnds:
		return text(op, []string{"a", "and", "(not", "if~"}[r.Intn(4)])
	case op == api.TermFingerprint:
		return api.Term{Op: op, Print: r.Uint64()}
	case op < api.TermNot:
		return number(op, r.Intn(1000))
	case op == api.TermNot:
		return kids(op, random(r, deep-1))
	}
	c := kids(op, random(r, deep-1), random(r, deep-1))
	if r.Intn(2) == 0 {
		c.Kids = append(c.Kids, random(r, deep-1))
	}
	return c
}

// P21.3
func TestParse(t *testing.T) {
	r := rand.New(rand.NewSource(1))
	for range 500 {
		l := []api.Rule{rule("a", random(r, 3)), {Name: "b", Verdict: api.VerdictReal, When: random(r, 4)}}
		s, e := Text(l)
		if e != api.OK {
			continue
		}
		if got, e := Parse(s); e != api.OK || !Same(got, l) {
			t.Fatal(s, e)
		}
	}
	x := rule("a", random(r, 2))
	l := []api.Rule{x, {}, rule("b", x.When), rule("a", leaf), {Name: "a", When: x.When}, rule("a", number(api.TermSource, 1)), rule("a", text(api.TermKind, "a")), rule("a", text(api.TermPath, "a")), rule("a", kids(api.TermNot, leaf)), rule("a", api.Term{Op: api.TermFingerprint, Print: 1})}
	for i := range l {
		for k := range l {
			if Same(l[i:i+1], l[k:k+1]) != (i == k) {
				t.Error(i, k)
			}
		}
	}
	if Same(l, l[1:]) || !Same(nil, []api.Rule{}) || !Same([]api.Rule{{When: api.Term{Kids: []api.Term{}}}}, []api.Rule{{}}) {
		t.Error("lists")
	}
}
