package cycle

import (
	"slices"

	"filigree/api"
	"filigree/bitv"
	"filigree/eval"
	"filigree/lint"
)

// step is a part of a cycle: it makes others of the values that it is handed.
type step func(v []uint64)

// player is a clean design that goes through cycles, and gives up, by a panic, where it can't go on.
type player struct {
	api.Flat
	wires, clocked []process // those of wires in the order in which they are done
	truths         []truth
}

func playerOf(d api.Flat) player {
	order, e := lint.Order(d)
	ensure(e == api.OK, e)
	p := player{Flat: d}
	for _, k := range order {
		p.wires = append(p.wires, processOf(d, d.Procs[k]))
	}
	for _, one := range d.Procs {
		if one.Clocked {
			p.clocked = append(p.clocked, processOf(d, one))
		}
	}
	for _, check := range d.Checks {
		p.truths = append(p.truths, truthOf(d, check.E))
	}
	return p
}

// ensure gives up, unless it is so.
func ensure(so bool, e api.Errno) {
	if !so {
		panic(e)
	}
}

// behind is what steps make of values that may be any.
func (p player) behind(v []uint64, steps ...step) []uint64 {
	ensure(eval.Values(p.Flat, v) == api.OK, api.ErrArg)
	made := slices.Clone(v)
	for _, do := range steps {
		do(made)
	}
	return made
}

func (p player) reset() []uint64 {
	v := make([]uint64, len(p.Signals))
	for k, s := range p.Signals {
		v[k] = s.Init
	}
	return v
}

// put is the step that sets inputs.
func (p player) put(in []uint64) step {
	ins := p.ofKind(api.InK)
	ensure(len(in) == len(ins), api.ErrArg)
	for k, signal := range ins {
		ensure(in[k] <= bitv.Mask(p.Signals[signal].W), api.ErrArg)
	}
	return func(v []uint64) {
		for k, signal := range ins {
			v[signal] = in[k]
		}
	}
}

// ofKind are the numbers of the signals of a kind.
func (p player) ofKind(kind int) []int {
	var l []int
	for k, s := range p.Signals {
		if s.Kind == kind {
			l = append(l, k)
		}
	}
	return l
}

func (p player) settle(v []uint64) {
	for _, one := range p.wires {
		one.writeInto(v, one.made(v))
	}
}

// tick has all clocked processes begin with the same values.
func (p player) tick(v []uint64) {
	var made [][]uint64
	for _, one := range p.clocked {
		made = append(made, one.made(v))
	}
	for k, one := range p.clocked {
		one.writeInto(v, made[k])
	}
}

// run is what is seen in each of some cycles, from the beginning on.
func (p player) run(ins [][]uint64) []seen {
	l := &looker{player: p}
	var steps []step
	for _, in := range ins {
		steps = append(steps, p.put(in), p.settle, l.look, p.tick)
	}
	p.behind(p.reset(), steps...)
	return l.rows
}
