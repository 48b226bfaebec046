package cycle_test

import (
	"slices"
	"testing"

	"filigree/api"
	"filigree/eval"
	"filigree/lint"
	"filigree/stmt"
)

// model tells, sentence by sentence, what the chapter does of a clean design.
type model struct {
	*testing.T
	d api.Flat
}

func (m model) fine(what string, e api.Errno) {
	m.Helper()
	if e != api.OK {
		m.Fatalf("%s of %v: error %d", what, brief{m.d}, e)
	}
}

func (m model) done(v []uint64, p int) []uint64 {
	made, e := stmt.Run(m.d, v, p)
	m.fine("Run", e)
	return made
}

func (m model) reset() []uint64 {
	v := make([]uint64, len(m.d.Signals))
	for k, s := range m.d.Signals {
		if s.Kind == api.RegK {
			v[k] = s.Init
		}
	}
	return v
}

func (m model) put(v, in []uint64) []uint64 {
	v = slices.Clone(v)
	for k, s := range m.d.Signals {
		if s.Kind == api.InK {
			v[k], in = in[0], in[1:]
		}
	}
	return v
}

func (m model) settle(v []uint64) []uint64 {
	order, e := lint.Order(m.d)
	m.fine("Order", e)
	for _, p := range order {
		v = m.done(v, p)
	}
	return v
}

// tick goes bit by bit.
func (m model) tick(v []uint64) []uint64 {
	next := slices.Clone(v)
	for p, one := range m.d.Procs {
		if !one.Clocked {
			continue
		}
		made := m.done(v, p)
		writes, e := stmt.Writes(m.d, p)
		m.fine("Writes", e)
		for _, bit := range writes {
			signal := 0
			for bit >= m.d.Signals[signal].W {
				bit -= m.d.Signals[signal].W
				signal++
			}
			next[signal] = next[signal]&^(1<<bit) | made[signal]&(1<<bit)
		}
	}
	return next
}

func (m model) outs(v []uint64) ([]uint64, []bool) {
	var outs []uint64
	for k, s := range m.d.Signals {
		if s.Kind == api.OutK {
			outs = append(outs, v[k])
		}
	}
	var checks []bool
	for _, c := range m.d.Checks {
		is, e := eval.Eval(m.d, v, c.E)
		m.fine("Eval", e)
		checks = append(checks, is == 1)
	}
	return outs, checks
}

func (m model) run(ins [][]uint64) ([][]uint64, [][]bool) {
	var outs [][]uint64
	var checks [][]bool
	v := m.reset()
	for _, in := range ins {
		v = m.settle(m.put(v, in))
		row, holds := m.outs(v)
		outs, checks = append(outs, row), append(checks, holds)
		v = m.tick(v)
	}
	return outs, checks
}
