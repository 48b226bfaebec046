package stmt

import (
	"filigree/api"
	"filigree/bitv"
	"filigree/eval"
	"filigree/excerpt"
)

// player is values that a process is done to: expressions are those of the values seen, statements write into those made. The two are one list, unless the process is clocked.
type player struct {
	signals    []api.Signal
	seen, made []uint64
}

func (p player) all(l []api.T) {
	for _, t := range l {
		p.one(t)
	}
}

func (p player) one(t api.T) {
	switch t.Op {
	case api.AssignT:
		p.write(t, p.value(t.E[0]))
	case api.IfT:
		p.all(blockOf(t.L, p.value(t.E[0])).L)
	case api.CaseT:
		p.all(armOf(t.L, p.value(t.E[0])).L)
	case api.BlockT:
		p.all(t.L)
	}
}

// write puts a value into the bits that an assignment names.
func (p player) write(t api.T, v uint64) {
	old := api.Bits{W: p.signals[t.Sig].W, V: p.made[t.Sig]}
	next, _ := bitv.Set(old, t.Hi, t.Lo, api.Bits{W: t.Hi - t.Lo + 1, V: v})
	p.made[t.Sig] = next.V
}

// value is what an expression of the design is; of what is sized eval tells no error.
func (p player) value(e api.E) uint64 {
	x := excerpt.Of(p.signals)
	e = x.Expression(e)
	v, _ := eval.Eval(api.Flat{Signals: x.Signals}, x.Values(p.seen), e)
	return v
}

func blockOf(blocks []api.T, v uint64) api.T {
	if v == 1 {
		return blocks[0]
	}
	return blocks[1]
}

// armOf is the first arm that has a value as its label; the last arm has none.
func armOf(arms []api.T, v uint64) api.T {
	for _, arm := range arms {
		for _, label := range arm.E {
			if label.V == v {
				return arm
			}
		}
	}
	return arms[len(arms)-1]
}
