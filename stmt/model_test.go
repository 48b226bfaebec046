package stmt_test

import (
	"slices"

	"filigree/api"
	"filigree/eval"
)

// The model is the chapter's sentences, bit by bit: values are bits of the design, a list of statements is done from the first one on, and then what is left of it; what an expression is, and which bits stand in it, layer 10 tells, which is handed all of the design's signals.

// bitsOfValues is one number a bit, signal by signal, the lowest one first.
func bitsOfValues(d api.Flat, v []uint64) []uint64 {
	var l []uint64
	for k, s := range d.Signals {
		for bit := range s.W {
			l = append(l, v[k]>>bit&1)
		}
	}
	return l
}

func valuesOfBits(d api.Flat, l []uint64) []uint64 {
	v := make([]uint64, len(d.Signals))
	for k, s := range d.Signals {
		for bit := range s.W {
			v[k] |= l[bit] << bit
		}
		l = l[s.W:]
	}
	return v
}

// place is the number of a signal's bit.
func place(d api.Flat, signal, bit int) int {
	for _, s := range d.Signals[:signal] {
		bit += s.W
	}
	return bit
}

func modelRun(d api.Flat, v []uint64, p int) []uint64 {
	var seen []uint64
	if d.Procs[p].Clocked {
		seen = v
	}
	return valuesOfBits(d, modelDone(d, seen, bitsOfValues(d, v), d.Procs[p].L))
}

// modelDone is the bits behind statements; seen is nil where expressions are of the bits that are there then.
func modelDone(d api.Flat, seen, bits []uint64, l []api.T) []uint64 {
	if len(l) == 0 {
		return bits
	}
	t := l[0]
	of := seen
	if of == nil {
		of = valuesOfBits(d, bits)
	}
	value := uint64(0)
	if len(t.E) == 1 && t.Op != api.ArmT {
		value, _ = eval.Eval(api.Flat{Signals: d.Signals}, of, t.E[0])
	}
	switch t.Op {
	case api.AssignT:
		bits = slices.Clone(bits)
		for bit := t.Lo; bit <= t.Hi; bit++ {
			bits[place(d, t.Sig, bit)] = value >> (bit - t.Lo) & 1
		}
	case api.IfT:
		if value == 0 {
			bits = modelDone(d, seen, bits, t.L[1].L)
		} else {
			bits = modelDone(d, seen, bits, t.L[0].L)
		}
	case api.CaseT:
		bits = modelDone(d, seen, bits, t.L[modelArm(t.L, value)].L)
	case api.BlockT:
		bits = modelDone(d, seen, bits, t.L)
	}
	return modelDone(d, seen, bits, l[1:])
}

// modelArm is the number of the arm that is done.
func modelArm(arms []api.T, value uint64) int {
	found := len(arms) - 1
	for k := len(arms) - 1; k >= 0; k-- {
		for _, label := range arms[k].E {
			if label.V == value {
				found = k
			}
		}
	}
	return found
}

// statements are all of a process, those within others, too.
func statements(l []api.T) []api.T {
	var all []api.T
	for _, t := range l {
		all = append(append(all, t), statements(t.L)...)
	}
	return all
}

func modelReads(d api.Flat, p int) []int {
	var l []int
	for _, t := range statements(d.Procs[p].L) {
		for _, e := range t.E {
			bits, _ := eval.Needs(api.Flat{Signals: d.Signals}, e)
			l = append(l, bits...)
		}
	}
	slices.Sort(l)
	return slices.Compact(l)
}

func modelWrites(d api.Flat, p int) []int {
	all := statements(d.Procs[p].L)
	return modelBits(d, func(signal, bit int) bool {
		return slices.ContainsFunc(all, func(t api.T) bool { return writes(t, signal, bit) })
	})
}

func modelAlways(d api.Flat, p int) []int {
	return modelBits(d, func(signal, bit int) bool { return !avoided(d.Procs[p].L, signal, bit) })
}

func modelBits(d api.Flat, is func(signal, bit int) bool) []int {
	var l []int
	for k, s := range d.Signals {
		for bit := range s.W {
			if is(k, bit) {
				l = append(l, place(d, k, bit))
			}
		}
	}
	return l
}

func writes(t api.T, signal, bit int) bool {
	return t.Op == api.AssignT && t.Sig == signal && t.Lo <= bit && bit <= t.Hi
}

// avoided tells whether there is a way through statements on which a bit is not written.
func avoided(l []api.T, signal, bit int) bool {
	for _, t := range l {
		around := t.Op == api.BlockT && avoided(t.L, signal, bit)
		for _, one := range t.L {
			around = around || t.Op != api.BlockT && avoided(one.L, signal, bit)
		}
		if t.Op == api.AssignT && writes(t, signal, bit) || t.Op != api.AssignT && !around {
			return false
		}
	}
	return true
}
