// Package finder looks for one valid kind in many texts, so that its automaton is made once for all of them.
package finder

import (
	"cmp"
	"iter"
	"slices"

	"leakresponse/api"
	"leakresponse/library"
	"leakresponse/machine"
)

// nowhere is a state from which nothing is accepted.
const nowhere = -1

// Finder is a kind with its automaton.
type Finder struct {
	kind    api.Kind
	leads   []int16 // for each state the states to which the 256 bytes lead
	accepts []bool
}

// New is specified for valid kinds.
func New(k api.Kind) Finder {
	m, _ := machine.Compile(k.Pattern)
	f := Finder{kind: k, leads: slices.Repeat([]int16{nowhere}, 256*len(m.Edges)), accepts: m.Accepts}
	for state, l := range m.Edges {
		for _, x := range l {
			for c := int(x.Range.Low); c <= int(x.Range.High); c++ {
				f.leads[256*state+c] = int16(x.To)
			}
		}
	}
	return f
}

// All is specified for libraries.
func All(l []api.Kind) []Finder {
	var out []Finder
	for _, k := range l {
		out = append(out, New(k))
	}
	return out
}

// ends returns the places at which a part with at least one byte that belongs to the pattern can end.
func (f Finder) ends(b []byte, from int) []int {
	var out []int
	state := 0
	for at := from; at < len(b); at++ {
		next := f.leads[256*state+int(b[at])]
		if next == nowhere {
			break
		}
		state = int(next)
		if f.accepts[state] {
			out = append(out, at+1)
		}
	}
	return out
}

// Choice returns the end of the choice at a place of a text.
func (f Finder) Choice(b []byte, from int) (int, bool) {
	for _, to := range slices.Backward(f.ends(b, from)) {
		if library.Clear(f.kind, b, from, to) {
			return to, true
		}
	}
	return 0, false
}

// Choices hands out the choices that begin from a place on and before limit, found from the left.
func (f Finder) Choices(b []byte, from, limit int) iter.Seq2[int, int] {
	return func(yield func(int, int) bool) {
		for at := from; at < limit; {
			to, ok := f.Choice(b, at)
			if !ok {
				at++
				continue
			}
			if !yield(at, to) {
				return
			}
			at = to
		}
	}
}

// Passes reports whether a choice passes.
func (f Finder) Passes(b []byte, from, to int) bool {
	return library.Passes(f.kind, b, from, to)
}

// Matches returns the matches of the kind, which has this number.
func (f Finder) Matches(number int, b []byte) []api.Match {
	var out []api.Match
	for from, to := range f.Choices(b, 0, len(b)) {
		if f.Passes(b, from, to) {
			out = append(out, api.Match{Kind: number, From: from, To: to})
		}
	}
	return out
}

// Matches returns the matches of all kinds of a library, in order.
func Matches(l []Finder, b []byte) []api.Match {
	var out []api.Match
	for number, f := range l {
		out = append(out, f.Matches(number, b)...)
	}
	slices.SortFunc(out, Compare)
	return out
}

// Compare is the order of matches: by From, then by To, then by Kind.
func Compare(x, y api.Match) int {
	return cmp.Or(cmp.Compare(x.From, y.From), cmp.Compare(x.To, y.To), cmp.Compare(x.Kind, y.Kind))
}
