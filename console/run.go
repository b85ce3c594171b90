package console

import (
	"cmp"
	"slices"
	"strconv"

	"leakresponse/access"
	"leakresponse/api"
	"leakresponse/directory"
	"leakresponse/exposure"
	"leakresponse/readers"
)

// introduces reports whether a command introduces its name.
func introduces(c api.Command) bool {
	return c.Kind == api.CommandPerson || c.Kind == api.CommandGroup
}

// namesOf returns the names that commands introduce, in order, or the first error of names that applies.
func namesOf(l []api.Command) ([]string, api.Errno) {
	var names []string
	twice := false
	for _, c := range l {
		if introduces(c) {
			twice = twice || slices.Contains(names, c.Name)
			names = append(names, c.Name)
		}
	}
	missing := func(name string) bool { return name != "" && !slices.Contains(names, name) }
	switch {
	case twice:
		return nil, api.ErrExists
	case slices.ContainsFunc(l, func(c api.Command) bool { return missing(c.Name) || missing(c.Other) }):
		return nil, api.ErrMissing
	case len(names) > api.MaxPrincipals:
		return nil, api.ErrLimit
	}
	return names, api.OK
}

// Make returns the directory, the estate, and the names of a script.
func Make(l []api.Command) (api.Directory, api.Estate, []string, api.Errno) {
	fail := func(e api.Errno) (api.Directory, api.Estate, []string, api.Errno) {
		return api.Directory{}, api.Estate{}, nil, e
	}
	if e := check(l); e != api.OK {
		return fail(e)
	}
	names, e := namesOf(l)
	if e != api.OK {
		return fail(e)
	}
	var d api.Directory
	a := api.Estate{Places: api.MaxEstate}
	for _, c := range l {
		switch c.Kind {
		case api.CommandPerson:
			d.Kinds = append(d.Kinds, api.PrincipalPerson)
		case api.CommandGroup:
			d.Kinds = append(d.Kinds, api.PrincipalGroup)
		case api.CommandJoin, api.CommandLeave:
			d.Events = append(d.Events, member(c, names))
		case api.CommandAllow, api.CommandForbid, api.CommandOpen, api.CommandPut, api.CommandCopy:
			a.Events = append(a.Events, event(c, names))
		}
	}
	slices.SortStableFunc(d.Events, func(x, y api.Member) int { return cmp.Compare(x.Time, y.Time) })
	slices.SortStableFunc(a.Events, func(x, y api.Access) int { return cmp.Compare(x.Time, y.Time) })
	if e := directory.Check(d); e != api.OK {
		return fail(e)
	}
	if e := access.Check(a); e != api.OK {
		return fail(e)
	}
	return d, a, names, api.OK
}

func member(c api.Command, names []string) api.Member {
	kind := api.MemberJoin
	if c.Kind == api.CommandLeave {
		kind = api.MemberLeave
	}
	return api.Member{Time: c.Time, Kind: kind, Principal: slices.Index(names, c.Name), Group: slices.Index(names, c.Other)}
}

func event(c api.Command, names []string) api.Access {
	switch c.Kind {
	case api.CommandAllow:
		return api.Access{Time: c.Time, Kind: api.AccessGrant, Place: c.A, Principal: slices.Index(names, c.Name)}
	case api.CommandForbid:
		return api.Access{Time: c.Time, Kind: api.AccessRevoke, Place: c.A, Principal: slices.Index(names, c.Name)}
	case api.CommandOpen:
		return api.Access{Time: c.Time, Kind: api.AccessLink, Place: c.A, Until: c.B}
	case api.CommandPut:
		return api.Access{Time: c.Time, Kind: api.AccessPut, Place: c.B, Content: c.A}
	}
	return api.Access{Time: c.Time, Kind: api.AccessCopy, Place: c.B, From: c.A}
}

// Run answers the commands that ask, in order, each by a line.
func Run(l []api.Command) (string, api.Errno) {
	d, a, names, e := Make(l)
	if e != api.OK {
		return "", e
	}
	out := ""
	for _, c := range l {
		switch c.Kind {
		case api.CommandWho:
			out += who(d, a, names, c) + "\n"
		case api.CommandSince:
			out += since(d, a, names, c) + "\n"
		}
	}
	return out, api.OK
}

func who(d api.Directory, a api.Estate, names []string, c api.Command) string {
	audience, _ := readers.Who(d, a, c.A, c.Time)
	out := "inside"
	if audience.Public {
		out = "public"
	}
	for _, p := range audience.Principals {
		out += " " + names[p]
	}
	return out
}

func since(d api.Directory, a api.Estate, names []string, c api.Command) string {
	t, ok := exposure.Since(d, a, c.A, slices.Index(names, c.Name))
	if !ok {
		return "never"
	}
	return strconv.Itoa(t)
}
