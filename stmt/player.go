package stmt

import (
	"filigree/api"
	"filigree/bitv"
	"filigree/eval"
)

// player is values that a process is done to: expressions are those of the values seen, statements write into those made. The two are one list, unless the process is clocked.
type player struct {
	signals    []api.Signal
	seen, made []uint64
}

func (p player) all(l []api.T) {
	for _, t := range l {
		p.one(t)
	}
}

func (p player) one(t api.T) {
	switch t.Op {
	case api.AssignT:
		p.write(t, p.value(t.E[0]))
	case api.IfT:
		p.all(blockOf(t.L, p.value(t.E[0])).L)
	case api.CaseT:
		p.all(armOf(t.L, p.value(t.E[0])).L)
	case api.BlockT:
		p.all(t.L)
	}
}

// write puts a value into the bits that an assignment names.
func (p player) write(t api.T, v uint64) {
	old := api.Bits{W: p.signals[t.Sig].W, V: p.made[t.Sig]}
	next, _ := bitv.Set(old, t.Hi, t.Lo, api.Bits{W: t.Hi - t.Lo + 1, V: v})
	p.made[t.Sig] = next.V
}

// value is what an expression of the design is; of what is sized eval tells no error.
func (p player) value(e api.E) uint64 {
	x := excerpt{of: p, numbers: map[int]int{}}
	e = x.expression(e)
	v, _ := eval.Eval(api.Flat{Signals: x.signals}, x.values, e)
	return v
}

func blockOf(blocks []api.T, v uint64) api.T {
	if v == 1 {
		return blocks[0]
	}
	return blocks[1]
}

// armOf is the first arm that has a value as its label; the last arm has none.
func armOf(arms []api.T, v uint64) api.T {
	for _, arm := range arms {
		for _, label := range arm.E {
			if label.V == v {
				return arm
			}
		}
	}
	return arms[len(arms)-1]
}

// excerpt is those signals that stand in an expression, with their values, by numbers of their own. Eval checks each time all of the design that it is handed: so it is handed no more than that.
type excerpt struct {
	of      player
	numbers map[int]int
	signals []api.Signal
	values  []uint64
}

// expression is one of the design as one of the excerpt.
func (x *excerpt) expression(e api.E) api.E {
	if e.Op == api.SigE || e.Op == api.IndexE {
		e.Sig = x.number(e.Sig)
	}
	parts := make([]api.E, len(e.L))
	for k, part := range e.L {
		parts[k] = x.expression(part)
	}
	e.L = parts
	return e
}

// number is a signal's in the excerpt, where it is put if it is not there yet.
func (x *excerpt) number(signal int) int {
	n, ok := x.numbers[signal]
	if !ok {
		n = len(x.signals)
		x.numbers[signal] = n
		x.signals = append(x.signals, x.of.signals[signal])
		x.values = append(x.values, x.of.seen[signal])
	}
	return n
}
