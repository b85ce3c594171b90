package pattern

import (
	"math/rand"
	"regexp"
	"strings"
	"testing"

	"leakresponse/api"
)

func set(s string) api.Node {
	n := api.Node{Op: api.NodeSet}
	for i := 0; i < len(s); i += 2 {
		n.Ranges = append(n.Ranges, api.Range{Low: s[i], High: s[i+1]})
	}
	return n
}

func seq(l ...api.Node) api.Node    { return api.Node{Op: api.NodeSeq, Kids: l} }
func choice(l ...api.Node) api.Node { return api.Node{Op: api.NodeChoice, Kids: l} }
func repeat(n api.Node, low, high int) api.Node {
	return api.Node{Op: api.NodeRepeat, Kids: []api.Node{n}, Min: low, Max: high}
}

var a, b, c = set("aa"), set("bb"), set("cc")

func many(n int) api.Node {
	out := api.Node{Op: api.NodeSeq}
	for range n {
		out.Kids = append(out.Kids, a)
	}
	return out
}

func deep(n int) api.Node {
	out := a
	for i := range n {
		if i%2 == 0 {
			out = choice(out, b)
		} else {
			out = seq(out, b)
		}
	}
	return out
}

// P5.1
func TestValid(t *testing.T) {
	for k, c := range []struct {
		n api.Node
		e api.Errno
	}{
		{a, 0}, {set("acej"), 0}, {set("\x00\xff"), 0}, {seq(a, b), 0}, {choice(a, b), 0}, {repeat(a, 0, 1), 0}, {repeat(a, 64, 64), 0}, {repeat(repeat(a, 2, 2), 0, 3), 0},
		{api.Node{}, api.ErrInvalid}, {set(""), api.ErrInvalid}, {set("ba"), api.ErrInvalid}, {set("acdf"), api.ErrInvalid}, {set("acbf"), api.ErrInvalid}, {set("efaa"), api.ErrInvalid}, {set("\xfe\xff\x00\x01"), api.ErrInvalid},
		{seq(a), api.ErrInvalid}, {choice(a), api.ErrInvalid}, {seq(), api.ErrInvalid}, {seq(a, seq(a, b)), api.ErrInvalid}, {choice(choice(a, b), c), api.ErrInvalid},
		{repeat(a, 1, 1), api.ErrInvalid}, {repeat(a, 0, 0), api.ErrInvalid}, {repeat(a, 3, 2), api.ErrInvalid}, {repeat(a, -1, 2), api.ErrInvalid}, {repeat(a, 0, 65), api.ErrInvalid},
		{api.Node{Op: api.NodeRepeat, Kids: []api.Node{a, b}, Max: 2}, api.ErrInvalid}, {api.Node{Op: 5, Kids: []api.Node{a, b}}, api.ErrInvalid},
		{api.Node{Op: api.NodeSet, Ranges: a.Ranges, Max: 1}, api.ErrInvalid}, {api.Node{Op: api.NodeSet, Ranges: a.Ranges, Kids: []api.Node{a}}, api.ErrInvalid},
		{api.Node{Op: api.NodeSeq, Kids: []api.Node{a, b}, Min: 1}, api.ErrInvalid}, {api.Node{Op: api.NodeChoice, Kids: []api.Node{a, b}, Ranges: a.Ranges}, api.ErrInvalid},
		{api.Node{Op: api.NodeRepeat, Kids: []api.Node{a}, Max: 2, Ranges: a.Ranges}, api.ErrInvalid},
		{many(199), 0}, {many(200), api.ErrLimit}, {deep(19), 0}, {deep(20), api.ErrDepth}, {choice(many(199), a), api.ErrLimit},
		{repeat(repeat(a, 0, 64), 0, 16), 0}, {repeat(repeat(a, 0, 64), 0, 17), api.ErrLimit}, {repeat(repeat(repeat(repeat(a, 0, 64), 0, 64), 0, 64), 0, 64), api.ErrLimit},
		{seq(repeat(repeat(a, 0, 64), 0, 16), a), api.ErrLimit}, {choice(repeat(repeat(a, 0, 64), 0, 16), a), 0},
	} {
		if e := Valid(c.n); e != c.e {
			t.Errorf("%d: %d, not %d", k, e, c.e)
		}
		if s, e := Text(c.n); e != c.e || e != 0 && s != "" {
			t.Errorf("%d: %q, %d", k, s, e)
		}
		if c.e != 0 && (Longest(c.n) != 0 || Shortest(c.n) != 0 || Belongs(c.n, nil) || Belongs(c.n, []byte("a"))) {
			t.Errorf("%d: something of a pattern that is not valid", k)
		}
	}
	tower := a
	for range 60 {
		tower = repeat(tower, 64, 64)
	}
	if e := Valid(tower); e != api.ErrDepth {
		t.Error(e)
	}
	wide := seq(a, b)
	for range 60 { // 2^60 nodes
		wide = seq(wide, wide)
	}
	if Nodes(wide) != api.MaxNodes+1 || Valid(wide) != api.ErrLimit {
		t.Error("more than MaxNodes")
	}
	if Nodes(a) != 1 || Nodes(many(199)) != 200 || Nodes(many(200)) != 201 || Nodes(many(500)) != 201 || Nodes(choice(seq(a, b), c)) != 5 {
		t.Error("Nodes")
	}
}

// P5.1
func TestSame(t *testing.T) {
	l := []api.Node{a, b, seq(a, b), seq(b, a), choice(a, b), seq(a, b, c), repeat(a, 0, 1), repeat(a, 0, 2), repeat(a, 1, 2), {}, {Op: 9}, set("acej")}
	for i, x := range l {
		for k, y := range l {
			if Same(x, y) != (i == k) {
				t.Error(i, k)
			}
		}
	}
	if !Same(api.Node{Kids: []api.Node{}, Ranges: []api.Range{}}, api.Node{}) {
		t.Error("empty lists")
	}
}

func random(r *rand.Rand, deep int) api.Node {
	switch k := r.Intn(6); {
	case deep == 0 || k < 2:
		return []api.Node{a, b, c, set("ab"), set("aacc")}[r.Intn(5)]
	case k == 2:
		return repeat(random(r, deep-1), r.Intn(3), 2+r.Intn(2))
	default:
		n := api.Node{Op: api.NodeSeq + r.Intn(2)}
		for len(n.Kids) < 2+r.Intn(2) {
			if kid := random(r, deep-1); kid.Op != n.Op {
				n.Kids = append(n.Kids, kid)
			}
		}
		return n
	}
}

// P5.2: against another library's expressions, which have the same text where only letters are read.
func TestBelongs(t *testing.T) {
	r := rand.New(rand.NewSource(1))
	for range 400 {
		n := random(r, 3)
		s, e := Text(n)
		if e != api.OK {
			continue
		}
		x := regexp.MustCompile("^(?:" + s + ")$")
		least, greatest := 9999, -1
		for k := range 364 + 100 {
			text := ""
			for m := k; m > 0 && k < 364; m = (m - 1) / 3 {
				text += "abc"[(m-1)%3 : (m-1)%3+1]
			}
			for k >= 364 && len(text) < k%12 {
				text += string("abc"[r.Intn(3)])
			}
			got := Belongs(n, []byte(text))
			if got != x.MatchString(text) {
				t.Fatalf("%s: %q: %v", s, text, got)
			}
			if got {
				least, greatest = min(least, len(text)), max(greatest, len(text))
			}
		}
		if least < Shortest(n) || greatest > Longest(n) {
			t.Fatalf("%s: from %d to %d", s, least, greatest)
		}
	}
}

// P5.2
func TestSizes(t *testing.T) {
	for _, c := range []struct {
		s              string
		least, longest int
	}{{"(ab|c){2}", 2, 4}, {"a", 1, 1}, {"a{0,5}", 0, 5}, {"a{0,1}b{3}", 3, 4}, {"a|bcd|e{0,1}", 0, 3}, {"(a{64}){16}", 1024, 1024}} {
		n, e := Parse(c.s)
		if e != api.OK || Shortest(n) != c.least || Longest(n) != c.longest {
			t.Error(c, e, Shortest(n), Longest(n))
		}
	}
	n := repeat(repeat(a, 0, 64), 0, 16)
	if long := []byte(strings.Repeat("a", 1025)); Belongs(n, long) || !Belongs(n, long[1:]) || !Belongs(n, nil) {
		t.Error("1024 bytes")
	}
	if !Belongs(set("\x00\x00\xfe\xff"), []byte{255}) || Belongs(set("\x00\x00\xfe\xff"), []byte{253}) {
		t.Error("a set")
	}
}

// P5.3
func TestText(t *testing.T) {
	for s, n := range map[string]api.Node{
		"a": a, "ab": seq(a, b), "a|b": choice(a, b), "a{2}": repeat(a, 2, 2), "a{0,2}": repeat(a, 0, 2), "a{19,29}": repeat(a, 19, 29), "(ab|c){2}": repeat(choice(seq(a, b), c), 2, 2), "(a{2}){3,4}": repeat(repeat(a, 2, 2), 3, 4),
		"a(b|c)": seq(a, choice(b, c)), "ab{2}|c": choice(seq(a, repeat(b, 2, 2)), c), "(ab){2}": repeat(seq(a, b), 2, 2), "[a-cf]": set("acff"), "[ac]": set("aacc"), "[a-b]": set("ab"),
		"\\x2d": set("--"), "\\x5c": set("\\\\"), "\\x20": set("  "), "\\x7f": set("\x7f\x7f"), "~": set("~~"), "!": set("!!"), "[\\x00-\\xff]": set("\x00\xff"), "[\\x2d0-\\x7b]": set("--0{"), ",": set(",,"),
		"\\x5b\\x5d\\x28\\x29\\x7b\\x7d\\x7c": Word("[](){}|"),
	} {
		if got, e := Text(n); got != s || e != api.OK {
			t.Errorf("%q, not %q, %d", got, s, e)
		}
		if got, e := Parse(s); !Same(got, n) || e != api.OK {
			t.Errorf("Parse(%q) = %v, %d", s, got, e)
		}
	}
	r := rand.New(rand.NewSource(2))
	for range 2000 {
		n := random(r, 4)
		if s, e := Text(n); e == api.OK {
			if again, e := Parse(s); e != api.OK || !Same(n, again) {
				t.Fatal(s, e)
			}
		}
	}
}

// P5.3
func TestParse(t *testing.T) {
	for _, s := range []string{"", "|", "a|", "|a", "()", "(a)", "(ab)c", "a(b)", "a{1}", "a{1,1}", "a{2,2}", "a{02}", "a{}", "a{,2}", "a{2,}", "a{2", "a{0}", "a{3,2}", "a{65}", "a{-1,2}", "a{+2}", "a{99999999999999999999}", "a{2}{3}",
		"[]", "[a]", "[a-a]", "[b-a]", "[ca]", "[a-cd]", "[a-", "[a", "a]", "a)", "(a", "-", "a b", "\\", "\\x", "\\x4", "\\x61", "\\x2D", "\\n", "\x80", "a}", "{2}", "(a|b)|c", "a|(b|c)", "(a|b)", "a{2}|(bc)", "((ab)){2}",
		strings.Repeat("a", 200), strings.Repeat("(", 2000), "((a{64}){64}){2}"} {
		if n, e := Parse(s); e != api.ErrSyntax || !Same(n, api.Node{}) {
			t.Errorf("Parse(%q) = %v, %d", s, n, e)
		}
	}
	if _, e := Parse(strings.Repeat("|", 4001)); e != api.ErrLimit {
		t.Error(e)
	}
	if _, e := Parse(strings.Repeat("|", 4000)); e != api.ErrSyntax {
		t.Error(e)
	}
	if n, e := Parse(strings.Repeat("a", 199)); e != api.OK || Nodes(n) != 200 {
		t.Error(e)
	}
}

// P5.3
func TestWord(t *testing.T) {
	if !Same(Word("a"), a) || !Same(Word("ab"), seq(a, b)) || !Same(Word(""), api.Node{}) || !Same(Word(strings.Repeat("a", 101)), api.Node{}) {
		t.Error("Word")
	}
	long := strings.Repeat("\xff-", 50)
	if n := Word(long); Valid(n) != api.OK || !Belongs(n, []byte(long)) || Belongs(n, []byte(long[1:])) {
		t.Error("a word of 100 bytes")
	}
}
