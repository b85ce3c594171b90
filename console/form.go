package console

import (
	"strconv"

	"leakresponse/api"
	"leakresponse/signs"
)

const (
	mostNumber  = 999999
	mostContent = 63
	longestName = 12
)

// field is a part of a command: a name or a number, whichever function there is to find it.
type field struct {
	name   func(c *api.Command) *string
	number func(c *api.Command) *int
	most   int // the greatest number
}

// form is a kind of commands: its word, and its fields in order.
type form struct {
	kind   int
	word   string
	fields []field
}

func forms() []form {
	name := field{name: func(c *api.Command) *string { return &c.Name }}
	other := field{name: func(c *api.Command) *string { return &c.Other }}
	number := func(find func(c *api.Command) *int, most int) field { return field{number: find, most: most} }
	a := func(c *api.Command) *int { return &c.A }
	b := func(c *api.Command) *int { return &c.B }
	time := number(func(c *api.Command) *int { return &c.Time }, mostNumber)
	place, content := number(a, api.MaxEstate-1), number(a, mostContent)
	second, until := number(b, api.MaxEstate-1), number(b, mostNumber)
	return []form{
		{api.CommandPerson, "person", []field{name}},
		{api.CommandGroup, "group", []field{name}},
		{api.CommandJoin, "join", []field{time, name, other}},
		{api.CommandLeave, "leave", []field{time, name, other}},
		{api.CommandAllow, "allow", []field{time, name, place}},
		{api.CommandForbid, "forbid", []field{time, name, place}},
		{api.CommandOpen, "open", []field{time, place, until}},
		{api.CommandPut, "put", []field{time, content, second}},
		{api.CommandCopy, "copy", []field{time, place, second}},
		{api.CommandWho, "who", []field{time, place}},
		{api.CommandSince, "since", []field{content, name}},
	}
}

func isName(s string) bool {
	return len(s) >= 1 && len(s) <= longestName && signs.Every(s, signs.IsSmall)
}

// right reports whether the field of a command is in its range.
func (x field) right(c *api.Command) bool {
	if x.name != nil {
		return isName(*x.name(c))
	}
	n := *x.number(c)
	return n >= 0 && n <= x.most
}

func (x field) put(to, from *api.Command) {
	if x.name != nil {
		*x.name(to) = *x.name(from)
		return
	}
	*x.number(to) = *x.number(from)
}

func (x field) text(c *api.Command) string {
	if x.name != nil {
		return *x.name(c)
	}
	return strconv.Itoa(*x.number(c))
}

// read puts a word into the field of a command, if it can be there.
func (x field) read(c *api.Command, word string) bool {
	if x.name != nil {
		*x.name(c) = word
		return true
	}
	n, ok := signs.Number(word)
	*x.number(c) = n
	return ok
}
