package pattern

import (
	"slices"

	"leakresponse/api"
)

// Belongs reports whether bytes belong to a valid pattern; false for others.
func Belongs(n api.Node, b []byte) bool {
	if Valid(n) != api.OK || len(b) > longestValid {
		return false
	}
	begin := make([]bool, len(b)+1)
	begin[0] = true
	return ends(n, b, begin)[len(b)]
}

// ends returns the places at which a part that belongs to n and begins at one of the given places can end.
func ends(n api.Node, b []byte, begins []bool) []bool {
	switch n.Op {
	case api.NodeSet:
		return setEnds(n, b, begins)
	case api.NodeSeq:
		for _, kid := range n.Kids {
			begins = ends(kid, b, begins)
		}
		return begins
	case api.NodeChoice:
		out := make([]bool, len(begins))
		for _, kid := range n.Kids {
			unite(out, ends(kid, b, begins))
		}
		return out
	}
	return repeatEnds(n, b, begins)
}

func setEnds(n api.Node, b []byte, begins []bool) []bool {
	out := make([]bool, len(begins))
	for i, c := range b {
		out[i+1] = begins[i] && slices.ContainsFunc(n.Ranges, func(r api.Range) bool { return r.Low <= c && c <= r.High })
	}
	return out
}

func repeatEnds(n api.Node, b []byte, begins []bool) []bool {
	out := make([]bool, len(begins))
	for i := 0; ; i++ {
		if i >= n.Min {
			unite(out, begins)
		}
		if i == n.Max || !slices.Contains(begins, true) {
			return out
		}
		begins = ends(n.Kids[0], b, begins)
	}
}

func unite(all, more []bool) {
	for i, is := range more {
		all[i] = all[i] || is
	}
}
