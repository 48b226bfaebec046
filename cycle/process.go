package cycle

import (
	"filigree/api"
	"filigree/eval"
	"filigree/excerpt"
	"filigree/stmt"
)

// process is one of a design, alone with the signals that stand in it.
type process struct {
	*excerpt.Excerpt
	alone  api.Flat
	writes []uint64 // of each of these signals the bits that it writes
}

func processOf(d api.Flat, p api.Proc) process {
	x := excerpt.Of(d.Signals)
	procs := []api.Proc{x.Process(p)}
	alone := api.Flat{Signals: x.Signals, Procs: procs}
	return process{Excerpt: x, alone: alone, writes: writesOf(alone)}
}

// writesOf is of each signal of a design of one process the bits that it writes.
func writesOf(d api.Flat) []uint64 {
	lowest, _ := stmt.Bits(d)
	bits, _ := stmt.Writes(d, 0)
	writes := make([]uint64, len(d.Signals))
	signal := 0
	for _, bit := range bits {
		for lowest[signal+1] <= bit {
			signal++
		}
		writes[signal] |= 1 << (bit - lowest[signal])
	}
	return writes
}

// made is what the process makes of its signals' values; of a part of what is clean layer 11 tells no error.
func (p process) made(v []uint64) []uint64 {
	made, _ := stmt.Run(p.alone, p.Values(v), 0)
	return made
}

// writeInto puts what the process made into the bits that it writes.
func (p process) writeInto(v, made []uint64) {
	for k, signal := range p.From {
		v[signal] = v[signal]&^p.writes[k] | made[k]&p.writes[k]
	}
}

// truth is a check's expression, alone with the signals that stand in it.
type truth struct {
	*excerpt.Excerpt
	e api.E
}

func truthOf(d api.Flat, e api.E) truth {
	x := excerpt.Of(d.Signals)
	return truth{Excerpt: x, e: x.Expression(e)}
}

func (t truth) holds(v []uint64) bool {
	is, _ := eval.Eval(api.Flat{Signals: t.Signals}, t.Values(v), t.e)
	return is == 1
}
