package lint

import (
	"strconv"

	"filigree/api"
	"filigree/stmt"
)

// process is one of a design, alone with those signals that stand in it, by numbers of their own. Layer 11 checks each time all of the design that it is handed: so it is handed no more than that.
type process struct {
	clocked bool
	alone   api.Flat
	places  []int // of each bit of these signals its number among all bits of the design
}

func (p process) reads() []int  { return p.bits(stmt.Reads) }
func (p process) writes() []int { return p.bits(stmt.Writes) }
func (p process) always() []int { return p.bits(stmt.Always) }

// bits are those that a call of layer 11 tells, by their numbers in the design; of a part of what is sized that call tells no error.
func (p process) bits(call func(d api.Flat, p int) ([]int, api.Errno)) []int {
	told, _ := call(p.alone, 0)
	bits := make([]int, len(told))
	for k, bit := range told {
		bits[k] = p.places[bit]
	}
	return bits
}

// processOf is one of a design's processes; lowest is of each signal the number of its lowest bit, and, behind them, how many bits there are.
func processOf(d api.Flat, lowest []int, p api.Proc) process {
	x := excerpt{all: d.Signals, lowest: lowest, numbers: map[int]int{}}
	p.L = each(p.L, x.statement)
	return process{clocked: p.Clocked, alone: api.Flat{Signals: x.signals, Procs: []api.Proc{p}}, places: x.places}
}

// excerpt is those of all signals of a design that were met.
type excerpt struct {
	all     []api.Signal
	lowest  []int
	numbers map[int]int
	signals []api.Signal
	places  []int
}

// statement is one of the design as one of the excerpt.
func (x *excerpt) statement(t api.T) api.T {
	if t.Op == api.AssignT {
		t.Sig = x.number(t.Sig)
	}
	t.E, t.L = each(t.E, x.expression), each(t.L, x.statement)
	return t
}

func (x *excerpt) expression(e api.E) api.E {
	if e.Op == api.SigE || e.Op == api.IndexE {
		e.Sig = x.number(e.Sig)
	}
	e.L = each(e.L, x.expression)
	return e
}

// number is a signal's in the excerpt, where it is put, by a short name, if it is not there yet.
func (x *excerpt) number(signal int) int {
	n, met := x.numbers[signal]
	if met {
		return n
	}
	n = len(x.signals)
	x.numbers[signal] = n
	s := x.all[signal]
	s.Name = strconv.Itoa(n)
	x.signals = append(x.signals, s)
	for bit := x.lowest[signal]; bit < x.lowest[signal+1]; bit++ {
		x.places = append(x.places, bit)
	}
	return n
}

func each[N any](l []N, one func(n N) N) []N {
	made := make([]N, len(l))
	for k, n := range l {
		made[k] = one(n)
	}
	return made
}
