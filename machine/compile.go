package machine

import (
	"slices"

	"leakresponse/api"
	"leakresponse/pattern"
)

// Positions returns the number of positions of a pattern, at most MaxPositions + 1; 0 for one that is not valid.
func Positions(n api.Node) int {
	if pattern.Valid(n) != api.OK {
		return 0
	}
	return positions(n)
}

func positions(n api.Node) int {
	if n.Op == api.NodeSet {
		return 1
	}
	sum := 0
	for _, kid := range n.Kids {
		sum = min(sum+positions(kid), api.MaxPositions+1)
	}
	if n.Op == api.NodeRepeat {
		sum = min(sum*n.Max, api.MaxPositions+1)
	}
	return sum
}

// Compile returns the least machine that accepts just what belongs to a pattern.
func Compile(n api.Node) (api.Machine, api.Errno) {
	if e := pattern.Valid(n); e != api.OK {
		return api.Machine{}, e
	}
	if positions(n) > api.MaxPositions {
		return api.Machine{}, api.ErrLimit
	}
	w := &written{}
	m, ok := w.machine(w.part(n))
	if !ok {
		return api.Machine{}, api.ErrLimit
	}
	return least(m), api.OK
}

// written is a pattern that is written out: its positions, and which ones can follow each.
type written struct {
	sets    [][]api.Range
	follows []group
}

// part is a part of a pattern: whether nothing belongs to it, too, and the positions at which it can begin and end.
type part struct {
	empty       bool
	first, last group
}

func (w *written) part(n api.Node) part {
	switch n.Op {
	case api.NodeSet:
		var alone group
		alone.add(len(w.sets))
		w.sets = append(w.sets, n.Ranges)
		w.follows = append(w.follows, group{})
		return part{first: alone, last: alone}
	case api.NodeSeq:
		out := part{empty: true}
		for _, kid := range n.Kids {
			out = w.then(out, w.part(kid))
		}
		return out
	case api.NodeChoice:
		var out part
		for _, kid := range n.Kids {
			out = either(out, w.part(kid))
		}
		return out
	}
	return w.repeat(n)
}

// then puts b behind a.
func (w *written) then(a, b part) part {
	for p := range a.last.places() {
		w.follows[p].join(b.first)
	}
	out := part{empty: a.empty && b.empty, first: a.first, last: b.last}
	if a.empty {
		out.first.join(b.first)
	}
	if b.empty {
		out.last.join(a.last)
	}
	return out
}

func either(a, b part) part {
	a.empty = a.empty || b.empty
	a.first.join(b.first)
	a.last.join(b.last)
	return a
}

// repeat writes the copies of a repetition; it can end behind each one from the first Min on.
func (w *written) repeat(n api.Node) part {
	copies := part{empty: true}
	out := part{empty: n.Min == 0}
	for i := range n.Max {
		copies = w.then(copies, w.part(n.Kids[0]))
		if i+1 >= n.Min {
			out = either(out, copies)
		}
	}
	out.first = copies.first
	return out
}

// machine makes a state of each group that can be reached; false if these are too many.
func (w *written) machine(whole part) (api.Machine, bool) {
	lows := w.lows()
	masks := w.masks(lows)
	all := groups{numbers: numbers{of: map[group]int{}}}
	m := api.Machine{Edges: [][]api.Edge{nil}, Accepts: []bool{whole.empty}}
	next := whole.first
	for state := 0; ; state++ {
		for i, mask := range masks {
			to := next.both(mask)
			if to == (group{}) {
				continue
			}
			number := all.number(to)
			if number == api.MaxStates {
				return api.Machine{}, false
			}
			if number == len(m.Edges) {
				m.Edges = append(m.Edges, nil)
				m.Accepts = append(m.Accepts, to.both(whole.last) != group{})
			}
			m.Edges[state] = append(m.Edges[state], api.Edge{Range: span(lows, i), To: number})
		}
		if state == len(all.list) {
			return m, true
		}
		next = group{}
		for p := range all.list[state].places() {
			next.join(w.follows[p])
		}
	}
}

// lows returns the least bytes of the classes of bytes between which the sets make no difference.
func (w *written) lows() []int {
	lows := []int{0}
	for _, set := range w.sets {
		for _, r := range set {
			lows = append(lows, int(r.Low), int(r.High)+1)
		}
	}
	slices.Sort(lows)
	lows = slices.Compact(lows)
	if lows[len(lows)-1] == 256 {
		lows = lows[:len(lows)-1]
	}
	return lows
}

// span returns the bytes of a class.
func span(lows []int, i int) api.Range {
	high := 255
	if i+1 < len(lows) {
		high = lows[i+1] - 1
	}
	return api.Range{Low: byte(lows[i]), High: byte(high)}
}

// masks returns, for each class of bytes, the positions whose sets have it.
func (w *written) masks(lows []int) []group {
	out := make([]group, len(lows))
	for i, low := range lows {
		for p, set := range w.sets {
			if slices.ContainsFunc(set, func(r api.Range) bool { return int(r.Low) <= low && low <= int(r.High) }) {
				out[i].add(p)
			}
		}
	}
	return out
}
