// Package excerpt makes small designs of parts of great ones. Layers 9 to 12 check each time all of the design that they are handed: so who asks them often, process by process, or expression by expression, hands them no more of it than what stands in that part.
package excerpt

import (
	"strconv"

	"filigree/api"
)

// Excerpt is those signals of a design that is sized which were met in parts of it, by numbers, and short names, of their own.
type Excerpt struct {
	Signals []api.Signal
	From    []int // of each of them its number in the design
	all     []api.Signal
	numbers map[int]int
}

// Of is an excerpt of a design's signals that has met none of them yet.
func Of(signals []api.Signal) *Excerpt {
	return &Excerpt{all: signals, numbers: map[int]int{}}
}

// Process is one of the design as one of the excerpt.
func (x *Excerpt) Process(p api.Proc) api.Proc {
	p.L = each(p.L, x.statement)
	return p
}

func (x *Excerpt) statement(t api.T) api.T {
	if t.Op == api.AssignT {
		t.Sig = x.number(t.Sig)
	}
	t.E, t.L = each(t.E, x.Expression), each(t.L, x.statement)
	return t
}

// Expression is one of the design as one of the excerpt.
func (x *Excerpt) Expression(e api.E) api.E {
	if e.Op == api.SigE || e.Op == api.IndexE {
		e.Sig = x.number(e.Sig)
	}
	e.L = each(e.L, x.Expression)
	return e
}

// Values are those of the excerpt's signals, of all values of the design.
func (x *Excerpt) Values(v []uint64) []uint64 {
	return each(x.From, func(signal int) uint64 { return v[signal] })
}

// number is a signal's in the excerpt, where it is put if it is not there yet.
func (x *Excerpt) number(signal int) int {
	n, met := x.numbers[signal]
	if met {
		return n
	}
	n = len(x.Signals)
	x.numbers[signal] = n
	s := x.all[signal]
	s.Name = strconv.Itoa(n)
	x.Signals = append(x.Signals, s)
	x.From = append(x.From, signal)
	return n
}

func each[N, M any](l []N, one func(n N) M) []M {
	made := make([]M, len(l))
	for k, n := range l {
		made[k] = one(n)
	}
	return made
}
