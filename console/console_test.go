package console

import (
	"math"
	"math/rand"
	"slices"
	"strconv"
	"strings"
	"testing"

	"leakresponse/access"
	"leakresponse/api"
	"leakresponse/directory"
)

var good = []struct {
	c api.Command
	s string
}{
	{api.Command{Kind: api.CommandPerson, Name: "ann"}, "person ann"}, {api.Command{Kind: api.CommandGroup, Name: "abcdefghijkl"}, "group abcdefghijkl"},
	{api.Command{Kind: api.CommandJoin, Time: 0, Name: "a", Other: "z"}, "join 0 a z"}, {api.Command{Kind: api.CommandLeave, Time: 999999, Name: "a", Other: "b"}, "leave 999999 a b"},
	{api.Command{Kind: api.CommandAllow, Time: 10, Name: "a", A: 15}, "allow 10 a 15"}, {api.Command{Kind: api.CommandForbid, Time: 1, Name: "a"}, "forbid 1 a 0"}, {api.Command{Kind: api.CommandOpen, Time: 5, A: 3, B: 999999}, "open 5 3 999999"},
	{api.Command{Kind: api.CommandPut, Time: 5, A: 63, B: 15}, "put 5 63 15"}, {api.Command{Kind: api.CommandCopy, Time: 5, A: 1, B: 2}, "copy 5 1 2"}, {api.Command{Kind: api.CommandWho, Time: 5, A: 15}, "who 5 15"}, {api.Command{Kind: api.CommandSince, A: 63, Name: "a"}, "since 63 a"},
}

// P44.1
func TestValid(t *testing.T) {
	has := map[int]string{api.CommandPerson: "N", api.CommandGroup: "N", api.CommandJoin: "TNO", api.CommandLeave: "TNO", api.CommandAllow: "TNA", api.CommandForbid: "TNA", api.CommandOpen: "TAB", api.CommandPut: "TAB", api.CommandCopy: "TAB", api.CommandWho: "TA", api.CommandSince: "AN"}
	most := map[string]int{"T": 999999, "A": 15, "B": 15}
	for _, g := range good {
		if !Valid(g.c) {
			t.Error(g.s)
		}
		for _, f := range []string{"T", "A", "B"} {
			top := most[f]
			if f == "A" && (g.c.Kind == api.CommandPut || g.c.Kind == api.CommandSince) {
				top = 63
			}
			if f == "B" && g.c.Kind == api.CommandOpen {
				top = 999999
			}
			if !strings.Contains(has[g.c.Kind], f) {
				top = 0
			}
			for _, n := range []int{math.MinInt, -1, 0, top, top + 1, math.MaxInt} {
				c := g.c
				*map[string]*int{"T": &c.Time, "A": &c.A, "B": &c.B}[f] = n
				if Valid(c) != (n >= 0 && n <= top) {
					t.Error(g.s, f, n)
				}
			}
		}
		for _, f := range []string{"N", "O"} {
			for _, s := range []string{"", "a", "abcdefghijklm", "A", "a1", "a b", "\xff"} {
				c := g.c
				*map[string]*string{"N": &c.Name, "O": &c.Other}[f] = s
				if Valid(c) != (strings.Contains(has[c.Kind], f) == (s == "a") && (s == "" || s == "a")) {
					t.Error(g.s, f, s)
				}
			}
		}
	}
	for _, kind := range []int{0, -1, 12} {
		if Valid(api.Command{Kind: kind, Name: "a"}) || Valid(api.Command{Kind: kind}) {
			t.Error(kind)
		}
	}
}

// P44.1
func TestText(t *testing.T) {
	var l []api.Command
	text := ""
	for _, g := range good {
		l = append(l, g.c)
		text += g.s + "\n"
	}
	if s, e := Format(l); s != text || e != api.OK {
		t.Error(s, e)
	}
	if got, n, e := Parse(text); !slices.Equal(got, l) || n != 0 || e != api.OK {
		t.Error(got, n, e)
	}
	if got, n, e := Parse(""); len(got) > 0 || n != 0 || e != api.OK {
		t.Error(got, n, e)
	}
	for _, s := range []string{"\n", "person ann", "person ann \n", " person ann\n", "person  ann\n", "person\n", "person ann bob\n", "Person ann\n", "person Ann\n", "person abcdefghijklm\n", "person \n", "join 01 a b\n", "join 1 a\n", "join 1 a B\n", "join -1 a b\n", "join +1 a b\n", "join 1000000 a b\n", "join x a b\n", "allow 1 a 16\n", "forbid 1 16 a\n", "open 1 16 5\n", "open 1 5 1000000\n", "put 1 64 0\n", "put 1 0 16\n", "copy 1 16 0\n", "copy 1 0 16\n", "who 1 16\n", "who 1\n", "who 1 2 3\n", "since 64 a\n", "since a 5\n", "what 1 2\n", "person ann\r\n", "who 99999999999999999999 1\n"} {
		for _, front := range []string{"", "person ann\n", "who 0 0\nwho 1 1\n"} {
			got, n, e := Parse(front + s)
			if len(got) > 0 || n != strings.Count(front, "\n") || e != api.ErrCommand {
				t.Errorf("%q: %d, %d", front+s, n, e)
			}
		}
	}
	ok := "who 0 0\n"
	for i, c := range []struct {
		s string
		n int
		e api.Errno
	}{{strings.Repeat(ok, 60), 0, 0}, {strings.Repeat(ok, 61), 60, api.ErrLimit}, {strings.Repeat(ok, 60) + "w", 60, api.ErrLimit}, {strings.Repeat("?\n", 61), 60, api.ErrLimit}, {strings.Repeat(ok, 59) + "w", 59, api.ErrCommand}} {
		if _, n, e := Parse(c.s); n != c.n || e != c.e {
			t.Error(i, n, e)
		}
	}
	who := api.Command{Kind: api.CommandWho}
	if s, e := Format(slices.Repeat([]api.Command{{}}, 61)); s != "" || e != api.ErrLimit {
		t.Error(e)
	}
	if s, e := Format([]api.Command{who, {}}); s != "" || e != api.ErrCommand {
		t.Error(e)
	}
	if _, e := Format(slices.Repeat([]api.Command{who}, 60)); e != api.OK {
		t.Error(e)
	}
}

func parse(t *testing.T, s string) []api.Command {
	t.Helper()
	l, n, e := Parse(s)
	if e != api.OK {
		t.Fatal(s, n, e)
	}
	return l
}

// P44.2
func TestMake(t *testing.T) {
	d, a, names, e := Make(parse(t, "join 5 ann team\nperson ann\nput 9 7 3\nleave 2 bot team\ngroup team\njoin 2 bot team\nallow 1 team 3\nperson bot\ncopy 9 3 4\nopen 0 2 5\nforbid 9 ann 4\nwho 1 1\nsince 7 bot\n"))
	if e != api.OK || !slices.Equal(names, []string{"ann", "team", "bot"}) || !slices.Equal(d.Kinds, []int{1, 2, 1}) {
		t.Error(names, d, e)
	}
	if !slices.Equal(d.Events, []api.Member{{Time: 2, Kind: api.MemberLeave, Principal: 2, Group: 1}, {Time: 2, Kind: api.MemberJoin, Principal: 2, Group: 1}, {Time: 5, Kind: api.MemberJoin, Principal: 0, Group: 1}}) {
		t.Error(d.Events)
	}
	if a.Places != api.MaxEstate || !slices.Equal(a.Events, []api.Access{{Kind: api.AccessLink, Place: 2, Until: 5}, {Time: 1, Kind: api.AccessGrant, Place: 3, Principal: 1}, {Time: 9, Kind: api.AccessPut, Place: 3, Content: 7}, {Time: 9, Kind: api.AccessCopy, Place: 4, From: 3}, {Time: 9, Kind: api.AccessRevoke, Place: 4, Principal: 0}}) {
		t.Error(a.Events)
	}
	many := ""
	for i := range 25 {
		many += "person p" + string(rune('a'+i)) + "\n"
	}
	for s, want := range map[string]api.Errno{
		"": 0, many[:len(many)-10]: 0, many: api.ErrLimit, many + "since 1 zoe\n": api.ErrMissing, many + "since 1 zoe\nperson pa\n": api.ErrExists,
		"person a\ngroup a\n": api.ErrExists, "join 1 a b\nperson a\n": api.ErrMissing, "join 1 a b\ngroup b\n": api.ErrMissing, "allow 1 a 1\n": api.ErrMissing, "forbid 1 a 1\n": api.ErrMissing, "since 1 a\n": api.ErrMissing,
		"person a\nperson b\njoin 1 a b\nopen 5 0 5\n": api.ErrDirectory, "group a\njoin 1 a a\n": api.ErrDirectory, "open 5 0 5\n": api.ErrAccess, "open 5 0 4\n": api.ErrAccess, "copy 1 2 2\n": api.ErrAccess, "open 5 0 6\n": 0,
	} {
		l := parse(t, s)
		d, a, names, e := Make(l)
		out, f := Run(l)
		if e != want || f != want || e != api.OK && len(d.Kinds)+len(d.Events)+len(a.Events)+a.Places+len(names)+len(out) > 0 {
			t.Errorf("%q: %d, %d", s, e, f)
		}
	}
	for want, l := range map[api.Errno][]api.Command{api.ErrLimit: make([]api.Command, 61), api.ErrCommand: make([]api.Command, 1)} {
		_, _, _, e := Make(l)
		if _, f := Run(l); e != want || f != want {
			t.Error(e, f)
		}
	}
}

// P44.3
func TestRun(t *testing.T) {
	for s, want := range map[string]string{
		"person ann\nallow 3 ann 0\nput 5 7 0\nsince 7 ann\n":                                                    "5\n",
		"person ann\nput 5 7 0\nsince 7 ann\nsince 6 ann\n":                                                      "never\nnever\n",
		"person ann\ngroup team\nperson bob\njoin 2 ann team\nallow 4 team 1\nwho 3 1\nwho 4 1\nwho 9 0\n":       "inside\ninside ann\ninside\n",
		"person ann\ngroup team\nperson bob\nopen 5 1 8\nwho 4 1\nwho 5 1\nwho 7 1\nwho 8 1\n":                   "inside\npublic ann bob\npublic ann bob\ninside\n",
		"group team\nput 1 0 0\nopen 1 0 9\nsince 0 team\nperson ann\nsince 0 ann\nallow 1 team 0\n":             "never\n1\n",
		"person ann\nput 9 1 2\ncopy 12 2 3\nallow 10 ann 3\nsince 1 ann\nwho 10 3\nforbid 11 ann 3\nwho 11 3\n": "never\ninside ann\ninside\n",
		"person ann\nput 9 1 2\ncopy 10 2 3\nallow 10 ann 3\nsince 1 ann\n":                                      "10\n",
		"person ann\n": "",
	} {
		if out, e := Run(parse(t, s)); out != want || e != api.OK {
			t.Errorf("%q: %q, %d", s, out, e)
		}
	}
}

// Consequences: commands of different times may be in any order.
func TestOrder(t *testing.T) {
	r := rand.New(rand.NewSource(1))
	for range 200 {
		head := "person ann\nperson bob\ngroup one\ngroup two\n"
		var l []string
		for at := range 12 {
			n := func(k int) string { return strconv.Itoa(r.Intn(k)) }
			who := []string{"ann", "bob", "one", "two"}[r.Intn(4)]
			when := strconv.Itoa(at)
			l = append(l, []string{"join " + when + " ann one", "join " + when + " one two", "leave " + when + " ann one", "allow " + when + " " + who + " " + n(2), "forbid " + when + " " + who + " " + n(2), "open " + when + " " + n(2) + " " + strconv.Itoa(at+2), "put " + when + " 0 " + n(2), "copy " + when + " 0 1"}[r.Intn(8)])
		}
		tail := "who 6 0\nwho 11 1\nsince 0 ann\nsince 0 bob\n"
		script := func() string { return head + strings.Join(l, "\n") + "\n" + tail }
		want, e := Run(parse(t, script()))
		if e != api.OK {
			t.Fatal(e)
		}
		r.Shuffle(len(l), func(i, k int) { l[i], l[k] = l[k], l[i] })
		cmds := parse(t, script())
		if out, e := Run(cmds); out != want || e != api.OK {
			t.Fatal(script(), out, want)
		}
		d, a, _, _ := Make(cmds)
		if directory.Check(d) != api.OK || access.Check(a) != api.OK {
			t.Fatal("not valid")
		}
	}
}
