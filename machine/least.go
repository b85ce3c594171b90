package machine

import (
	"slices"

	"leakresponse/api"
)

// Least returns the machine with the fewest states that accepts the same.
func Least(m api.Machine) (api.Machine, api.Errno) {
	if !Valid(m) {
		return api.Machine{}, api.ErrInvalid
	}
	return least(m), api.OK
}

// table is a machine in which every class of bytes leads somewhere: the last state is the one from which nothing is accepted.
type table struct {
	lows   []int
	leads  [][]int // for each class of bytes and each state
	blocks []int   // for each state
}

// least is specified for valid machines.
func least(m api.Machine) api.Machine {
	t := table{lows: classes(m)}
	dead := len(m.Edges)
	t.leads = make([][]int, len(t.lows))
	for i, low := range t.lows {
		t.leads[i] = make([]int, dead+1)
		for state := range dead + 1 {
			t.leads[i][state] = dead
			if state == dead {
				continue
			}
			if to, ok := step(m, state, byte(low)); ok {
				t.leads[i][state] = to
			}
		}
	}
	t.blocks = refined(t.leads, append(slices.Clone(m.Accepts), false))
	return t.quotient(m)
}

// classes returns the least bytes of the classes between which the edges make no difference.
func classes(m api.Machine) []int {
	begins := make([]bool, 257)
	begins[0] = true
	for _, l := range m.Edges {
		for _, x := range l {
			begins[x.Range.Low] = true
			begins[int(x.Range.High)+1] = true
		}
	}
	var lows []int
	for c, is := range begins[:256] {
		if is {
			lows = append(lows, c)
		}
	}
	return lows
}

// quotient makes one state of each block that is met from state 0 on, but for the one from which nothing is accepted.
func (t table) quotient(m api.Machine) api.Machine {
	dead := t.blocks[len(t.blocks)-1]
	number := make([]int, len(t.blocks))
	for i := range number {
		number[i] = -1
	}
	number[t.blocks[0]] = 0
	met := []int{0} // for each block that is met, one of its states
	var out api.Machine
	for at := 0; at < len(met); at++ {
		var edges []api.Edge
		for i, leads := range t.leads {
			to := leads[met[at]]
			block := t.blocks[to]
			if block == dead {
				continue
			}
			if number[block] < 0 {
				number[block] = len(met)
				met = append(met, to)
			}
			edges = joined(edges, api.Edge{Range: span(t.lows, i), To: number[block]})
		}
		out.Edges = append(out.Edges, edges)
		out.Accepts = append(out.Accepts, m.Accepts[met[at]])
	}
	return out
}

// joined appends an edge, or makes the last one longer, if both lead to the same state without a gap.
func joined(l []api.Edge, x api.Edge) []api.Edge {
	if n := len(l); n > 0 && l[n-1].To == x.To && int(l[n-1].Range.High)+1 == int(x.Range.Low) {
		l[n-1].Range.High = x.Range.High
		return l
	}
	return append(l, x)
}
