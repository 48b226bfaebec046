package lint

import (
	"filigree/api"
	"filigree/excerpt"
	"filigree/stmt"
)

// process is one of a design, alone with those signals that stand in it, by numbers of their own.
type process struct {
	clocked bool
	alone   api.Flat
	places  []int // of each bit of these signals its number among all bits of the design
}

func (p process) reads() []int  { return p.bits(stmt.Reads) }
func (p process) writes() []int { return p.bits(stmt.Writes) }
func (p process) always() []int { return p.bits(stmt.Always) }

// bits are those that a call of layer 11 tells, by their numbers in the design; of a part of what is sized that call tells no error.
func (p process) bits(call func(d api.Flat, p int) ([]int, api.Errno)) []int {
	told, _ := call(p.alone, 0)
	bits := make([]int, len(told))
	for k, bit := range told {
		bits[k] = p.places[bit]
	}
	return bits
}

// processOf is one of a design's processes; lowest is of each signal the number of its lowest bit, and, behind them, how many bits there are.
func processOf(d api.Flat, lowest []int, p api.Proc) process {
	x := excerpt.Of(d.Signals)
	p = x.Process(p)
	var places []int
	for _, signal := range x.From {
		for bit := lowest[signal]; bit < lowest[signal+1]; bit++ {
			places = append(places, bit)
		}
	}
	return process{clocked: p.Clocked, alone: api.Flat{Signals: x.Signals, Procs: []api.Proc{p}}, places: places}
}
