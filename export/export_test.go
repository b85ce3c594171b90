package export

import (
	"math/rand"
	"slices"
	"strings"
	"testing"

	"leakresponse/api"
)

func post(t, id int, text string) api.Message {
	return api.Message{Kind: api.MessagePost, ID: id, Author: "ann", Time: t, Text: text}
}

func edit(t, id int, text string) api.Message {
	return api.Message{Kind: api.MessageEdit, ID: id, Author: "bob", Time: t, Text: text}
}

func del(t, id int) api.Message {
	return api.Message{Kind: api.MessageDelete, ID: id, Author: "ann", Time: t}
}

func with(m api.Message, change func(m *api.Message)) api.Message {
	change(&m)
	return m
}

// P17.1
func TestValid(t *testing.T) {
	half := strings.Repeat("x", api.MaxBytes/2)
	var many []api.Message
	for i := range 301 {
		many = append(many, post(i, i+1, ""))
	}
	author := func(s string) api.Message { return with(post(1, 1, ""), func(m *api.Message) { m.Author = s }) }
	for i, c := range []struct {
		l []api.Message
		e api.Errno
	}{
		{nil, 0}, {[]api.Message{post(5, 1, "hello"), edit(6, 1, "bye"), del(7, 1)}, 0}, {many[:300], 0}, {many, api.ErrLimit}, {[]api.Message{post(1, 1, half), post(1, 2, half)}, 0}, {[]api.Message{post(1, 0, half), post(1, 2, half+"x")}, api.ErrLimit},
		{[]api.Message{with(post(1, 1, ""), func(m *api.Message) { m.Kind = 4 })}, api.ErrInvalid}, {[]api.Message{{ID: 1, Author: "a"}}, api.ErrInvalid}, {[]api.Message{post(-1, 0, "")}, api.ErrInvalid}, {[]api.Message{post(1, 1<<30+1, "")}, api.ErrInvalid}, {[]api.Message{post(1, 1<<30, "")}, 0},
		{[]api.Message{author("")}, api.ErrInvalid}, {[]api.Message{author("a b")}, api.ErrInvalid}, {[]api.Message{author("a/!~")}, 0}, {[]api.Message{author(strings.Repeat("x", 41))}, api.ErrInvalid}, {[]api.Message{author("\x7f")}, api.ErrInvalid},
		{[]api.Message{post(1, 1, ""), with(del(1, 1), func(m *api.Message) { m.Text = "x" })}, api.ErrInvalid},
		{[]api.Message{post(5, 1, ""), post(-1, 1, "")}, api.ErrRange}, {[]api.Message{post(api.MaxTime+1, 1, "")}, api.ErrRange}, {[]api.Message{post(api.MaxTime, 1, "")}, 0}, {[]api.Message{post(0, 1, ""), post(5, 1, ""), post(4, 2, "")}, api.ErrOrder},
		{[]api.Message{post(1, 1, ""), post(1, 1, ""), del(1, 2)}, api.ErrExists}, {[]api.Message{del(1, 2), post(1, 1, ""), post(1, 1, "")}, api.ErrMissing}, {[]api.Message{post(1, 1, ""), del(1, 1), post(1, 1, "")}, api.ErrExists}, {[]api.Message{post(1, 1, ""), del(1, 1), edit(1, 1, "")}, api.ErrMissing}, {[]api.Message{post(1, 1, ""), del(1, 1), del(1, 1)}, api.ErrMissing}, {[]api.Message{edit(1, 1, "")}, api.ErrMissing},
	} {
		b, e := Format(c.l)
		if f := Valid(c.l); e != c.e || f != c.e {
			t.Error(i, e, f, c.e)
		}
		again, f := Parse(b)
		if c.e == api.OK && (f != api.OK || !slices.Equal(again, c.l)) {
			t.Error(i, f)
		}
		if c.e != api.OK && len(Texts(c.l))+len(At(c.l, 99)) > 0 {
			t.Error(i, "something of messages that are not valid")
		}
	}
}

// P17.2
func TestFormat(t *testing.T) {
	for s, l := range map[string][]api.Message{
		"": nil, "post 1 5 ann hello\nedit 1 6 bob bye\ndelete 1 7 ann\n": {post(5, 1, "hello"), edit(6, 1, "bye"), del(7, 1)},
		"post 1 5 ann \n": {post(5, 1, "")}, "post 1 5 ann  a  b \n": {post(5, 1, " a  b ")}, "post 1 5 ann a\\nb\\\\\\x00\\xff\n": {post(5, 1, "a\nb\\\x00\xff")},
	} {
		if b, e := Format(l); e != api.OK || string(b) != s {
			t.Errorf("%q, %d", b, e)
		}
		if got, e := Parse([]byte(s)); e != api.OK || !slices.Equal(got, l) {
			t.Errorf("%q: %v, %d", s, got, e)
		}
	}
	for _, s := range []string{"\n", "post 1 5 ann", "post 1 5 ann\n", "post 1 5 ann x", "post 1 5 ann x\n\n", "post 01 5 ann x\n", "post 1 05 ann x\n", "post 1  5 ann x\n", " post 1 5 ann x\n", "Post 1 5 ann x\n", "what 1 5 ann x\n", "post 1 5 ann \\\n", "post 1 5 ann \\x41\n", "post 1 5 ann \\x0A\n", "post 1 5 ann \x80\n", "post 1 5 ann a\tb\n", "post 1 5 ann a\r\n", "post 1 5  x\n",
		"post 1 5 ann x\ndelete 1 5 ann \n", "post 1 5 ann x\ndelete 1 5 ann x\n", "post 1 5 ann x\npost 1 5 ann x\n", "edit 1 5 ann x\n", "post 1 5 ann x\npost 2 4 ann x\n", "post 0 5 ann x\n", "post 1 -5 ann x\n", strings.Repeat("post 1 5 ann x\n", 400)} {
		if l, e := Parse([]byte(s)); e != api.ErrPack || len(l) > 0 {
			t.Errorf("%.40q: %d", s, e)
		}
	}
	if _, e := Parse(make([]byte, 8*api.MaxBytes)); e != api.ErrPack {
		t.Error(e)
	}
	if _, e := Parse(make([]byte, 8*api.MaxBytes+1)); e != api.ErrLimit {
		t.Error(e)
	}
	full := []api.Message{post(1, 1, strings.Repeat("\x00", api.MaxBytes))}
	if b, e := Format(full); e != api.OK {
		t.Error(e)
	} else if l, e := Parse(b); e != api.OK || !slices.Equal(l, full) {
		t.Error(e)
	}
}

// P17.3
func TestAt(t *testing.T) {
	r := rand.New(rand.NewSource(1))
	for range 300 {
		var l []api.Message
		stand := map[int]bool{}
		at, last := 0, 0
		for range r.Intn(12) {
			at += r.Intn(2)
			id := 1 + r.Intn(last+1)
			if stand[id] && r.Intn(3) == 0 {
				l = append(l, del(at, id))
				stand[id] = false
			} else if stand[id] {
				l = append(l, edit(at, id, string(rune('a'+len(l)))))
			} else if last < 5 {
				last++
				l = append(l, post(at, last, string(rune('a'+len(l)))))
				stand[last] = true
			}
		}
		if Valid(l) != api.OK {
			t.Fatal(l)
		}
		var texts []api.Message
		for _, m := range l {
			if m.Kind != api.MessageDelete {
				texts = append(texts, m)
			}
		}
		if got := Texts(l); !slices.Equal(got, texts) {
			t.Fatal(l, got)
		}
		for when := -1; when < 10; when++ {
			var want []api.Message
			for id := 1; id <= 5; id++ {
				there := api.Message{}
				for _, m := range l {
					if m.ID == id && m.Time <= when {
						there = m
					}
				}
				if there.Kind == api.MessagePost || there.Kind == api.MessageEdit {
					want = append(want, there)
				}
			}
			if got := At(l, when); !slices.Equal(got, want) {
				t.Fatal(l, when, got, want)
			}
		}
	}
	l := []api.Message{post(5, 1, "hello"), edit(6, 1, "bye"), del(7, 1)}
	if len(Texts(l)) != 2 || len(At(l, 7)) != 0 || !slices.Equal(At(l, 6), l[1:2]) || !slices.Equal(At(l, 5), l[:1]) {
		t.Error("example")
	}
	Texts(l)[0].Text = "changed"
	if l[0].Text != "hello" {
		t.Error("shared memory")
	}
}
