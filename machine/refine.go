package machine

// partition is states in blocks; it is made finer until no block tells two states of another one apart (the way of Hopcroft).
type partition struct {
	states []int // block by block
	places []int // for each state, where it stands in states
	blocks []int // for each state
	begins []int // for each block
	ends   []int
	marked []int // for each block, how many states at its front are marked
	queue  []int // the blocks from which it has still to be looked
	marks  []int // the blocks with marked states
}

// refined returns the blocks of states that accept the same, for what each class of bytes leads to.
func refined(leads [][]int, accepts []bool) []int {
	p := &partition{blocks: make([]int, len(accepts))}
	for state := range accepts {
		p.states = append(p.states, state)
		p.places = append(p.places, state)
	}
	p.begin(0, len(accepts))
	for state, is := range accepts {
		if is {
			p.mark(state)
		}
	}
	p.split()
	from := make([]reverse, len(leads))
	for i, l := range leads {
		from[i] = reversed(l)
	}
	var targets []int
	for len(p.queue) > 0 {
		block := p.queue[len(p.queue)-1]
		p.queue = p.queue[:len(p.queue)-1]
		targets = append(targets[:0], p.states[p.begins[block]:p.ends[block]]...)
		for _, r := range from {
			for _, to := range targets {
				for _, state := range r.states[r.begins[to]:r.begins[to+1]] {
					p.mark(state)
				}
			}
			p.split()
		}
	}
	return p.blocks
}

// reverse has, for each state, the states that lead to it, all in one list.
type reverse struct {
	begins, states []int
}

func reversed(leads []int) reverse {
	r := reverse{begins: make([]int, len(leads)+1), states: make([]int, len(leads))}
	for _, to := range leads {
		r.begins[to]++
	}
	sum := 0
	for to := range r.begins {
		sum += r.begins[to]
		r.begins[to] = sum
	}
	for state, to := range leads {
		r.begins[to]--
		r.states[r.begins[to]] = state
	}
	return r
}

// begin makes a block of the states that stand at these places, and puts it into the queue.
func (p *partition) begin(from, to int) {
	for _, state := range p.states[from:to] {
		p.blocks[state] = len(p.begins)
	}
	p.queue = append(p.queue, len(p.begins))
	p.begins = append(p.begins, from)
	p.ends = append(p.ends, to)
	p.marked = append(p.marked, 0)
}

// mark puts a state, which is not marked, to the front of its block.
func (p *partition) mark(state int) {
	block := p.blocks[state]
	if p.marked[block] == 0 {
		p.marks = append(p.marks, block)
	}
	at, front := p.places[state], p.begins[block]+p.marked[block]
	other := p.states[front]
	p.states[at], p.states[front] = other, state
	p.places[other], p.places[state] = at, front
	p.marked[block]++
}

// split parts each block into its marked states and the others. The lesser part becomes the new block: it alone has to be looked from, if the block is not in the queue any more.
func (p *partition) split() {
	for _, block := range p.marks {
		from, to := p.begins[block], p.ends[block]
		middle := from + p.marked[block]
		p.marked[block] = 0
		switch {
		case middle == to:
		case middle-from <= to-middle:
			p.begins[block] = middle
			p.begin(from, middle)
		default:
			p.ends[block] = middle
			p.begin(middle, to)
		}
	}
	p.marks = p.marks[:0]
}
