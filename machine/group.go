package machine

import (
	"iter"
	"math/bits"

	"leakresponse/api"
)

const words = (api.MaxPositions + 63) / 64

// group is a set of positions.
type group [words]uint64

func (g *group) add(p int) { g[p/64] |= 1 << (p % 64) }

func (g *group) join(h group) {
	for i, x := range h {
		g[i] |= x
	}
}

func (g group) both(h group) group {
	for i, x := range h {
		g[i] &= x
	}
	return g
}

// places hands out the positions of a group.
func (g group) places() iter.Seq[int] {
	return func(yield func(int) bool) {
		for i, x := range g {
			for ; x != 0; x &= x - 1 {
				if !yield(i*64 + bits.TrailingZeros64(x)) {
					return
				}
			}
		}
	}
}

// numbers has the numbers of groups, from 1 on, since 0 is the beginning.
type numbers struct {
	of map[group]int
}

// groups are all groups that have a number, in the order of their numbers.
type groups struct {
	numbers
	list []group
}

func (g *groups) number(x group) int {
	n, ok := g.of[x]
	if !ok {
		g.list = append(g.list, x)
		n = len(g.list)
		g.of[x] = n
	}
	return n
}
