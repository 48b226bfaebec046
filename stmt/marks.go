package stmt

import (
	"iter"
	"slices"

	"filigree/api"
)

// marks tells of each bit whether it is marked: statements mark those that they read, or write. lowest is of each signal the number of its lowest bit.
type marks struct {
	lowest []int
	marked []bool
}

func unmarked(lowest []int) marks {
	return marks{lowest: lowest, marked: make([]bool, lowest[len(lowest)-1])}
}

func (m marks) reads(l []api.T) {
	for _, t := range l {
		m.expressions(t.E)
		m.reads(t.L)
	}
}

func (m marks) expressions(l []api.E) {
	for _, e := range l {
		switch e.Op {
		case api.SigE:
			m.mark(m.bits(e.Sig, e.Hi, e.Lo))
		case api.IndexE:
			m.mark(upTo(m.lowest[e.Sig], m.lowest[e.Sig+1]))
		}
		m.expressions(e.L)
	}
}

func (m marks) writes(l []api.T) {
	for _, t := range l {
		switch t.Op {
		case api.AssignT:
			m.mark(m.bits(t.Sig, t.Hi, t.Lo))
		default:
			m.writes(t.L)
		}
	}
}

func (m marks) always(l []api.T) {
	for _, t := range l {
		switch t.Op {
		case api.AssignT:
			m.mark(m.bits(t.Sig, t.Hi, t.Lo))
		case api.IfT, api.CaseT:
			m.mark(slices.Values(inAll(m.ways(t.L)...)))
		case api.BlockT:
			m.always(t.L)
		}
	}
}

// ways is of each of some blocks, or arms, which bits it writes always.
func (m marks) ways(l []api.T) [][]int {
	var ways [][]int
	for _, t := range l {
		way := unmarked(m.lowest)
		way.always(t.L)
		ways = append(ways, way.list())
	}
	return ways
}

// bits is those of a signal from its bit lo up to its bit hi.
func (m marks) bits(signal, hi, lo int) iter.Seq[int] {
	return upTo(m.lowest[signal]+lo, m.lowest[signal]+hi+1)
}

func (m marks) mark(bits iter.Seq[int]) {
	for bit := range bits {
		m.marked[bit] = true
	}
}

// list is the bits that are marked, rising.
func (m marks) list() []int {
	var l []int
	for bit, is := range m.marked {
		if is {
			l = append(l, bit)
		}
	}
	return l
}
