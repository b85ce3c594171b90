package library

import (
	"math"
	"slices"
	"strconv"
	"strings"
	"testing"

	"leakresponse/api"
	"leakresponse/checksum"
	"leakresponse/entropy"
	"leakresponse/pattern"
)

func kind(t *testing.T, name, s string) api.Kind {
	n, e := pattern.Parse(s)
	if e != api.OK {
		t.Fatal(s, e)
	}
	return api.Kind{Name: name, Pattern: n}
}

func with(k api.Kind, change func(k *api.Kind)) api.Kind {
	change(&k)
	return k
}

// P7.1
func TestKind(t *testing.T) {
	k := kind(t, "token", "t[0-9]{4}")
	words := func(n, size int) func(k *api.Kind) {
		return func(k *api.Kind) { k.Words = slices.Repeat([]string{strings.Repeat("w", size)}, n) }
	}
	for i, c := range []struct {
		k api.Kind
		e api.Errno
	}{
		{k, 0}, {kind(t, strings.Repeat("a", 40), "a"), 0}, {kind(t, "a-0", "a{1,2}|b"), 0},
		{kind(t, "", "a"), api.ErrSyntax}, {kind(t, strings.Repeat("a", 41), "a"), api.ErrSyntax}, {kind(t, "Ab", "a"), api.ErrSyntax}, {kind(t, "a b", "a"), api.ErrSyntax}, {api.Kind{Name: "A"}, api.ErrSyntax},
		{api.Kind{Name: "a"}, api.ErrInvalid}, {kind(t, "a", "(a{60}){10}b"), api.ErrLimit}, {with(kind(t, "a", "(a{60}){10}b"), func(k *api.Kind) { k.Check = 9 }), api.ErrLimit},
		{kind(t, "a", "a{0,2}"), api.ErrRange}, {kind(t, "a", "(a{64}){4}"), 0}, {kind(t, "a", "(a{64}){4}b"), api.ErrRange}, {kind(t, "a", "a{1,2}"), 0},
		{with(k, func(k *api.Kind) { k.Check = 5 }), api.ErrRange}, {with(k, func(k *api.Kind) { k.Check = -1 }), api.ErrRange}, {with(k, func(k *api.Kind) { k.Check = 4 }), 0},
		{with(k, func(k *api.Kind) { k.Entropy = 1 << 30 }), 0}, {with(k, func(k *api.Kind) { k.Entropy = 1<<30 + 1 }), api.ErrRange}, {with(k, func(k *api.Kind) { k.Entropy = -1 }), api.ErrRange},
		{with(k, words(16, 64)), 0}, {with(k, words(17, 1)), api.ErrRange}, {with(k, words(1, 65)), api.ErrRange}, {with(k, words(1, 0)), api.ErrRange},
		{with(k, func(k *api.Kind) { k.Near = 1 }), api.ErrRange}, {with(with(k, words(1, 1)), func(k *api.Kind) { k.Near = 64 }), 0},
		{with(with(k, words(1, 1)), func(k *api.Kind) { k.Near = 65 }), api.ErrRange}, {with(with(k, words(1, 1)), func(k *api.Kind) { k.Near = -1 }), api.ErrRange},
	} {
		if e := Kind(c.k); e != c.e {
			t.Error(i, e, c.e)
		}
	}
}

// P7.1
func TestValid(t *testing.T) {
	var l []api.Kind
	for i := range 33 {
		l = append(l, kind(t, "k"+strconv.Itoa(i), "a"))
	}
	bad := with(l[0], func(k *api.Kind) { k.Check = 7 })
	for i, c := range []struct {
		l []api.Kind
		e api.Errno
	}{
		{nil, api.ErrLimit}, {l, api.ErrLimit}, {l[:32], 0}, {[]api.Kind{l[0], l[0]}, api.ErrExists}, {[]api.Kind{l[0], l[0], bad}, api.ErrRange}, {[]api.Kind{l[1], {}, bad}, api.ErrSyntax},
	} {
		if e := Valid(c.l); e != c.e {
			t.Error(i, e, c.e)
		}
		if _, e := Text(c.l); e != c.e {
			t.Error(i, e, c.e)
		}
	}
}

// P7.2
func TestClear(t *testing.T) {
	whole, loose := api.Kind{Whole: true}, api.Kind{}
	b := []byte("aZ-09 x\xe1y")
	for _, c := range []struct {
		from, to int
		want     bool
	}{{0, 2, true}, {0, 1, false}, {1, 2, false}, {2, 3, false}, {3, 5, true}, {4, 5, false}, {5, 6, false}, {6, 7, true}, {8, 9, true}, {7, 8, false}, {0, 9, true}, {9, 9, false}, {5, 5, false}} {
		if Clear(whole, b, c.from, c.to) != c.want || !Clear(loose, b, c.from, c.to) {
			t.Error(c)
		}
	}
	for c := range 256 {
		sign := c >= '0' && c <= '9' || c >= 'A' && c <= 'Z' || c >= 'a' && c <= 'z'
		if Clear(whole, []byte{byte(c), '.'}, 1, 2) == sign || Clear(whole, []byte{'.', byte(c)}, 0, 1) == sign {
			t.Error(c)
		}
	}
	for _, c := range [][2]int{{-1, 2}, {0, 10}, {3, 2}, {math.MinInt, math.MaxInt}} {
		if Clear(loose, b, c[0], c[1]) || Passes(loose, b, c[0], c[1]) {
			t.Error(c)
		}
	}
}

// P7.2
func TestPasses(t *testing.T) {
	b := []byte("key: t123; lock")
	near := func(n int, words ...string) api.Kind { return api.Kind{Near: n, Words: words} }
	for i, c := range []struct {
		k    api.Kind
		want bool
	}{
		{api.Kind{}, true}, {near(5, "key"), true}, {near(4, "key"), false}, {near(4, "ey"), true}, {near(64, "no", "key"), true}, {near(6, "lock"), true}, {near(5, "lock"), false}, {near(64, "Key"), false},
		{near(64, "t123"), false}, {near(64, ": t1"), false}, {near(0, "key"), false}, {near(-1, "key"), false}, {near(math.MinInt, "key"), false}, {near(math.MaxInt, "key"), true},
		{api.Kind{Entropy: 4 * 131072}, true}, {api.Kind{Entropy: 4*131072 + 1}, false}, {api.Kind{Check: 7}, false}, {api.Kind{Check: api.CheckLuhn}, false},
	} {
		if Passes(c.k, b, 5, 9) != c.want {
			t.Error(i)
		}
	}
	s, _ := checksum.Complete(api.CheckLuhn, "12345")
	k := api.Kind{Check: api.CheckLuhn, Entropy: entropy.Measure([]byte(s))}
	if !Passes(k, []byte(s), 0, 6) || Passes(k, []byte(s), 0, 5) {
		t.Error("check")
	}
}

// P7.2
func TestSame(t *testing.T) {
	k := kind(t, "a", "a")
	l := []api.Kind{k, {}, kind(t, "b", "a"), kind(t, "a", "b"), with(k, func(k *api.Kind) { k.Whole = true }), with(k, func(k *api.Kind) { k.Check = 1 }), with(k, func(k *api.Kind) { k.Entropy = 1 }), with(k, func(k *api.Kind) { k.Near = 1 }), with(k, func(k *api.Kind) { k.Words = []string{"a"} }), with(k, func(k *api.Kind) { k.Words = []string{"b"} })}
	for i, x := range l {
		for m, y := range l {
			if Same([]api.Kind{k, x}, []api.Kind{k, y}) != (i == m) {
				t.Error(i, m)
			}
		}
	}
	if Same([]api.Kind{k}, []api.Kind{k, k}) || !Same(nil, []api.Kind{}) {
		t.Error("lists")
	}
}

// P7.3
func TestText(t *testing.T) {
	l := []api.Kind{
		kind(t, "plain", "a|b{2,3}"),
		with(kind(t, "all", "x[0-9]{4}"), func(k *api.Kind) {
			k.Whole, k.Check, k.Entropy, k.Near, k.Words = true, 4, 77, 64, []string{"a key", "\xff"}
		}),
		with(kind(t, "word", "w"), func(k *api.Kind) { k.Words = []string{"w"} }),
	}
	want := "plain a|b{2,3}\nall x[0-9]{4} whole check 4 entropy 77 near 64 word 61206b6579 word ff\nword w word 77\n"
	if s, e := Text(l); s != want || e != api.OK {
		t.Errorf("%q, %d", s, e)
	}
	if again, e := Parse(want); !Same(again, l) || e != api.OK {
		t.Error(again, e)
	}
	// The text of a pattern of more than 4000 bytes.
	set := api.Node{Op: api.NodeSet}
	for c := 0; c < 256; c += 2 {
		set.Ranges = append(set.Ranges, api.Range{Low: byte(c), High: byte(c)})
	}
	long := []api.Kind{{Name: "long", Pattern: api.Node{Op: api.NodeSeq, Kids: slices.Repeat([]api.Node{set}, 150)}}}
	s, e := Text(long)
	if e != api.OK || len(s) < 40000 {
		t.Fatal(e, len(s))
	}
	if again, e := Parse(s); e != api.OK || !Same(again, long) {
		t.Error(e)
	}
}

// P7.3
func TestParse(t *testing.T) {
	good := "a x word 78\n"
	if _, e := Parse(good); e != api.OK {
		t.Fatal(e)
	}
	for _, s := range []string{"", "\n", "a x", "a\n", "a \n", "a  x\n", " a x\n", "a x \n", "a x\n\n", "a x\r\n", "A x\n", "a (x)\n", "a x{0,1}\n", "a x whole whole\n", "a x check 0\n", "a x check 5\n", "a x check 01\n", "a x check\n", "a x check -1\n", "a x entropy 5 check 1\n", "a x check 1 whole\n",
		"a x near 5\n", "a x near 0 word 78\n", "a x word\n", "a x word \n", "a x word 7\n", "a x word 7G\n", "a x word 7A\n", "a x word 78 near 5\n", "a x word +1\n", "a x what 5\n", "a x\na x\n", "a x\nb", "a x entropy 1073741825\n", "a x entropy 99999999999999999999\n",
		strings.Repeat("(", 60000), "a " + strings.Repeat("(", 60000) + "\n", strings.Repeat(good, 40)} {
		if l, e := Parse(s); e != api.ErrSyntax || len(l) > 0 {
			t.Errorf("Parse(%.40q): %d", s, e)
		}
	}
	if _, e := Parse(strings.Repeat(" ", api.MaxBytes+1)); e != api.ErrLimit {
		t.Error(e)
	}
	if _, e := Parse(strings.Repeat(" ", api.MaxBytes)); e != api.ErrSyntax {
		t.Error(e)
	}
}
