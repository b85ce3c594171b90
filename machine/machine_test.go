package machine

import (
	"math/rand"
	"slices"
	"strconv"
	"strings"
	"testing"

	"leakresponse/api"
	"leakresponse/pattern"
)

func parse(t *testing.T, s string) api.Node {
	n, e := pattern.Parse(s)
	if e != api.OK {
		t.Fatal(s, e)
	}
	return n
}

func edge(s string, to int) api.Edge {
	return api.Edge{Range: api.Range{Low: s[0], High: s[1]}, To: to}
}

// P6.1
func TestValid(t *testing.T) {
	one := []bool{true}
	states := func(n int) api.Machine {
		return api.Machine{Edges: make([][]api.Edge, n), Accepts: make([]bool, n)}
	}
	for k, c := range []struct {
		m    api.Machine
		want bool
	}{
		{api.Machine{}, false}, {states(1), true}, {states(2000), true}, {states(2001), false}, {api.Machine{Edges: [][]api.Edge{nil, nil}, Accepts: one}, false}, {api.Machine{Accepts: one}, false},
		{api.Machine{Edges: [][]api.Edge{{edge("ab", 0), edge("cc", 0)}}, Accepts: one}, true},
		{api.Machine{Edges: [][]api.Edge{{edge("ab", 0), edge("bc", 0)}}, Accepts: one}, false},
		{api.Machine{Edges: [][]api.Edge{{edge("cc", 0), edge("ab", 0)}}, Accepts: one}, false},
		{api.Machine{Edges: [][]api.Edge{{edge("ba", 0)}}, Accepts: one}, false},
		{api.Machine{Edges: [][]api.Edge{{edge("ab", 1)}}, Accepts: one}, false}, {api.Machine{Edges: [][]api.Edge{{edge("ab", -1)}}, Accepts: one}, false},
	} {
		if Valid(c.m) != c.want || Same(c.m, c.m) != c.want {
			t.Error(k)
		}
		if !c.want {
			_, e := Least(c.m)
			if e != api.ErrInvalid || Accepts(c.m, nil) || len(Ends(c.m, nil, 0)) != 0 {
				t.Error(k, e)
			}
		}
	}
	l := []api.Machine{states(1), {Edges: [][]api.Edge{nil}, Accepts: one}, {Edges: [][]api.Edge{{edge("ab", 0)}}, Accepts: one}, states(2)}
	for i := range l {
		for k := range l {
			if Same(l[i], l[k]) != (i == k) {
				t.Error(i, k)
			}
		}
	}
}

// P6.1
func TestEnds(t *testing.T) {
	m, e := Compile(parse(t, "a{1,3}b{0,1}"))
	if e != api.OK {
		t.Fatal(e)
	}
	b := []byte("xaaab\xff")
	for from, want := range map[int][]int{0: nil, 1: {2, 3, 4, 5}, 3: {4, 5}, 4: nil, 6: nil, -1: nil, 7: nil} {
		if got := Ends(m, b, from); !slices.Equal(got, want) {
			t.Error(from, got)
		}
	}
	if !Accepts(m, []byte("aab")) || Accepts(m, []byte("aabb")) || Accepts(m, nil) || Accepts(m, []byte("aax")) {
		t.Error("Accepts")
	}
	m, _ = Compile(parse(t, "a{0,1}"))
	if got := Ends(m, []byte("a"), 1); !slices.Equal(got, []int{1}) || !Accepts(m, nil) {
		t.Error(got)
	}
	all := api.Machine{Edges: [][]api.Edge{{edge("\x00\xff", 0)}}, Accepts: []bool{true}}
	if !Accepts(all, []byte("\x00\xffz")) || len(Ends(all, b, 0)) != 7 {
		t.Error("all bytes")
	}
}

// P6.2
func TestPositions(t *testing.T) {
	for s, want := range map[string]int{"a": 1, "a{3}": 3, "a{0,3}": 3, "(ab|c){2}d": 7, "(a{60}){10}": 600, "(a{60}){10}b": 601, "(a{64}){16}": 601, "(a|b){2,64}": 128} {
		if got := Positions(parse(t, s)); got != want {
			t.Error(s, got)
		}
	}
	if Positions(api.Node{}) != 0 {
		t.Error("not valid")
	}
}

func random(r *rand.Rand, deep int) string {
	if k := r.Intn(6); deep > 0 && k > 1 {
		x, y := random(r, deep-1), random(r, deep-1)
		return []string{"", "", "(" + x + "){" + strconv.Itoa(r.Intn(3)) + "," + strconv.Itoa(3+r.Intn(2)) + "}", "(" + x + "|" + y + ")", x + y, x + y}[k]
	}
	return []string{"a", "b", "[a-b]", "[a-c]", "c"}[r.Intn(5)]
}

func texts(n int) []string {
	out := []string{""}
	for i := 0; len(out[i]) < n; i++ {
		out = append(out, out[i]+"a", out[i]+"b", out[i]+"c")
	}
	return out
}

// least is followed here pair by pair: no two states accept the same, each is met, and each accepts something.
func checkLeast(t *testing.T, m api.Machine) {
	n := len(m.Edges)
	differ := make([][]bool, n+1)
	for i := range differ {
		differ[i] = make([]bool, n+1)
		for k := range n + 1 {
			differ[i][k] = (i < n && m.Accepts[i]) != (k < n && m.Accepts[k])
		}
	}
	lead := func(i, c int) int {
		if i < n {
			if to, ok := step(m, i, byte(c)); ok {
				return to
			}
		}
		return n
	}
	for again := true; again; {
		again = false
		for i := range n + 1 {
			for k := range i {
				for c := 0; c < 256 && !differ[i][k]; c++ {
					x, y := lead(i, c), lead(k, c)
					if differ[x][y] || differ[y][x] {
						differ[i][k], differ[k][i], again = true, true, true
					}
				}
			}
		}
	}
	met := 1
	for i := range n {
		for k := range i {
			if !differ[i][k] {
				t.Fatal("two states accept the same", m)
			}
		}
		if !differ[i][n] && !differ[n][i] && i > 0 {
			t.Fatal("a state accepts nothing", m)
		}
		for k, x := range m.Edges[i] {
			if x.To > met {
				t.Fatal("not in the order in which they are met", m)
			}
			if x.To == met {
				met++
			}
			if k > 0 && x.To == m.Edges[i][k-1].To && x.Range.Low == m.Edges[i][k-1].Range.High+1 {
				t.Fatal("not joined", m)
			}
		}
	}
	if met != n {
		t.Fatal("a state is not met", m)
	}
}

// P6.2
func TestLeast(t *testing.T) {
	r := rand.New(rand.NewSource(1))
	all := texts(6)
	for range 300 {
		n := 1 + r.Intn(9)
		m := api.Machine{}
		for range n {
			var l []api.Edge
			for _, s := range []string{"aa", "bb", "cc"} {
				if r.Intn(4) > 0 {
					l = append(l, edge(s, r.Intn(n)))
				}
			}
			m.Edges = append(m.Edges, l)
			m.Accepts = append(m.Accepts, r.Intn(4) == 0)
		}
		x, e := Least(m)
		if e != api.OK || !Valid(x) {
			t.Fatal(m, e)
		}
		checkLeast(t, x)
		if again, _ := Least(x); !Same(x, again) {
			t.Fatal("Least of Least", m)
		}
		for _, s := range all {
			if Accepts(m, []byte(s)) != Accepts(x, []byte(s)) {
				t.Fatal(m, x, s)
			}
		}
	}
	circle := api.Machine{}
	for i := range 2000 {
		circle.Edges = append(circle.Edges, []api.Edge{edge("aa", (i+1)%2000), edge("bc", (i+7)%2000)})
		circle.Accepts = append(circle.Accepts, i == 3)
	}
	if x, _ := Least(circle); len(x.Edges) != 2000 {
		t.Error(len(x.Edges))
	}
	nothing, _ := Least(api.Machine{Edges: [][]api.Edge{{edge("ab", 1)}, {edge("cd", 0)}}, Accepts: []bool{false, false}})
	if !Same(nothing, api.Machine{Edges: [][]api.Edge{nil}, Accepts: []bool{false}}) {
		t.Error(nothing)
	}
}

// P6.3
func TestCompile(t *testing.T) {
	m, e := Compile(parse(t, "[a-b]{2}"))
	if !Same(m, api.Machine{Edges: [][]api.Edge{{edge("ab", 1)}, {edge("ab", 2)}, nil}, Accepts: []bool{false, false, true}}) || e != api.OK {
		t.Error(m, e)
	}
	for _, l := range [][]string{{"a{0,2}b|b", "(a|aa){0,1}b", "a{0,1}a{0,1}b"}, {"[a-b]|c", "[a-c]", "a|b|c"}, {"(a{0,1}){3}", "a{0,3}"}} {
		first, _ := Compile(parse(t, l[0]))
		for _, s := range l {
			if m, e := Compile(parse(t, s)); e != api.OK || !Same(m, first) {
				t.Error(s, m)
			}
		}
	}
	r := rand.New(rand.NewSource(2))
	all := texts(7)
	for range 200 {
		s := random(r, 3)
		n, e := pattern.Parse(s)
		if e != api.OK {
			continue
		}
		m, e := Compile(n)
		if e != api.OK {
			t.Fatal(s, e)
		}
		checkLeast(t, m)
		for _, w := range all {
			if Accepts(m, []byte(w)) != pattern.Belongs(n, []byte(w)) {
				t.Fatal(s, w)
			}
		}
	}
}

// P6.3: the bounds.
func TestCompileBounds(t *testing.T) {
	for s, want := range map[string]api.Errno{
		"(a{60}){10}": 0, "(a{60}){10}b": api.ErrLimit, "[\\x00-\\xff]{0,64}": 0,
		"[a-b]{0,7}a[a-b]{7}": 0, "[a-b]{0,9}a[a-b]{9}": api.ErrLimit,
	} {
		if m, e := Compile(parse(t, s)); e != want || e != 0 && len(m.Edges) > 0 {
			t.Error(s, e, len(m.Edges))
		}
	}
	if _, e := Compile(api.Node{}); e != api.ErrInvalid {
		t.Error(e)
	}
	// A tree of words: each beginning has a group of its own, so that the groups can be counted.
	count := func(n int) api.Node {
		var l []string
		for i := range n {
			l = append(l, string("0123456789abcdefghijklmnopqrstuvwxyz"[i])+"[a-z]{16}")
		}
		return parse(t, strings.Join(l, "|"))
	}
	if m, e := Compile(count(35)); e != api.OK || len(m.Edges) != 18 {
		t.Error(e, len(m.Edges)) // 35 times 17 positions, and as many groups
	}
}

// P6.3: exactly MaxStates groups, and one more. Behind k signs of a or b, a group tells which of the last ones were a.
func TestCompileGroups(t *testing.T) {
	count := func(s string) int {
		n := parse(t, s)
		w := &written{}
		whole := w.part(n)
		seen := map[group]bool{}
		list := []group{}
		see := func(next group) {
			for _, mask := range w.masks(w.lows()) {
				if g := next.both(mask); g != (group{}) && !seen[g] {
					seen[g] = true
					list = append(list, g)
				}
			}
		}
		see(whole.first)
		for i := 0; i < len(list) && len(list) < 4000; i++ {
			var next group
			for p := range list[i].places() {
				next.join(w.follows[p])
			}
			see(next)
		}
		return len(list) + 1
	}
	base := "[a-b]{0,9}a[a-b]{8}"
	k := count(base)
	for tail := 1995 - k; tail <= 2005-k; tail++ {
		s := base
		for rest := tail; rest > 0; rest -= 60 {
			s += "c{" + strconv.Itoa(min(rest, 60)) + "}"
		}
		n := count(s)
		if m, e := Compile(parse(t, s)); n != k+tail || (e == api.OK) != (n <= api.MaxStates) || e == api.OK && len(m.Edges) != n {
			t.Error(s, n, e)
		}
	}
}
