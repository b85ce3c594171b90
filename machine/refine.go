package machine

// partition is states in blocks; it is made finer until no block tells two states of another one apart (the way of Hopcroft).
type partition struct {
	blocks  []int // for each state
	members [][]int
	waits   []bool // for each block, whether it has still to be looked from
	queue   []int
}

// refined returns the blocks of states that accept the same, for what each class of bytes leads to.
func refined(leads [][]int, accepts []bool) []int {
	p := &partition{blocks: make([]int, len(accepts)), members: [][]int{nil}, waits: []bool{false}}
	var accepting []int
	for state, is := range accepts {
		p.members[0] = append(p.members[0], state)
		if is {
			accepting = append(accepting, state)
		}
	}
	p.put(0)
	p.split(accepting)
	from := make([]reverse, len(leads))
	for i, l := range leads {
		from[i] = reversed(l)
	}
	for len(p.queue) > 0 {
		block := p.queue[len(p.queue)-1]
		p.queue = p.queue[:len(p.queue)-1]
		p.waits[block] = false
		targets := append([]int{}, p.members[block]...)
		for _, r := range from {
			var states []int
			for _, to := range targets {
				states = append(states, r.states[r.begins[to]:r.begins[to+1]]...)
			}
			p.split(states)
		}
	}
	return p.blocks
}

// reverse has, for each state, the states that lead to it, all in one list.
type reverse struct {
	begins, states []int
}

func reversed(leads []int) reverse {
	r := reverse{begins: make([]int, len(leads)+1), states: make([]int, len(leads))}
	for _, to := range leads {
		r.begins[to+1]++
	}
	for to := range leads {
		r.begins[to+1] += r.begins[to]
	}
	at := append([]int{}, r.begins...)
	for state, to := range leads {
		r.states[at[to]] = state
		at[to]++
	}
	return r
}

func (p *partition) put(block int) {
	if !p.waits[block] {
		p.waits[block] = true
		p.queue = append(p.queue, block)
	}
}

// split parts each block into those of its states that are among states, and the others.
func (p *partition) split(states []int) {
	hit := map[int][]int{}
	var order []int
	for _, state := range states {
		block := p.blocks[state]
		if hit[block] == nil {
			order = append(order, block)
		}
		hit[block] = append(hit[block], state)
	}
	for _, block := range order {
		if len(hit[block]) < len(p.members[block]) {
			p.part(block, hit[block])
		}
	}
}

// part moves states of a block into a new one.
func (p *partition) part(block int, states []int) {
	fresh := len(p.members)
	p.members = append(p.members, states)
	p.waits = append(p.waits, false)
	for _, state := range states {
		p.blocks[state] = fresh
	}
	var rest []int
	for _, state := range p.members[block] {
		if p.blocks[state] == block {
			rest = append(rest, state)
		}
	}
	p.members[block] = rest
	if p.waits[block] || len(states) <= len(rest) {
		p.put(fresh)
	} else {
		p.put(block)
	}
}
