package konst

import "filigree/api"

// evaluator tells what expressions are that may be.
type evaluator struct {
	constants
	pairs map[int]func(a, b int) int
}

func newEvaluator(env []api.Named) *evaluator {
	return &evaluator{constants: constants{env: env}, pairs: pairs()}
}

// pairs is what the operations of two make of two constants. An int has room for all of it: what is no constant is still told apart from those that are.
func pairs() map[int]func(a, b int) int {
	return map[int]func(a, b int) int{
		api.AddO:  func(a, b int) int { return a + b },
		api.SubO:  func(a, b int) int { return a - b },
		api.MulO:  func(a, b int) int { return a * b },
		api.EqO:   func(a, b int) int { return truth(a == b) },
		api.NeO:   func(a, b int) int { return truth(a != b) },
		api.LtO:   func(a, b int) int { return truth(a < b) },
		api.LeO:   func(a, b int) int { return truth(a <= b) },
		api.GtO:   func(a, b int) int { return truth(a > b) },
		api.GeO:   func(a, b int) int { return truth(a >= b) },
		api.BothO: func(a, b int) int { return truth(a != 0 && b != 0) },
		api.OneO:  func(a, b int) int { return truth(a != 0 || b != 0) },
		// Moved up by 31 places all but 0 is too great already, and would go round if it were moved further.
		api.ShlO: func(a, b int) int { return a << min(b, 31) },
		api.ShrO: func(a, b int) int { return a >> b },
	}
}

func (ev *evaluator) value(x api.X) (int, api.Errno) {
	switch {
	case x.Op == api.NumX && x.W == 0:
		return number(x.V)
	case x.Op == api.NameX:
		return ev.named(x.Name)
	case x.Op == api.UnX && x.N == api.NoO:
		return ev.not(x.L[0])
	case x.Op == api.BinX:
		return ev.pair(x)
	case x.Op == api.CondX:
		return ev.choice(x.L[0], x.L[1], x.L[2])
	}
	return 0, api.ErrKonst
}

func (ev *evaluator) named(name string) (int, api.Errno) {
	v, ok := ev.find(name)
	if !ok {
		return 0, api.ErrFree
	}
	return constant(v)
}

func (ev *evaluator) not(x api.X) (int, api.Errno) {
	v, e := ev.value(x)
	if e != api.OK {
		return 0, e
	}
	return truth(v == 0), api.OK
}

// pair asks for both parts always: an error of the second one counts, too, where the first one tells all.
func (ev *evaluator) pair(x api.X) (int, api.Errno) {
	work, ok := ev.pairs[x.N]
	if !ok {
		return 0, api.ErrKonst
	}
	a, e := ev.value(x.L[0])
	if e != api.OK {
		return 0, e
	}
	b, e := ev.value(x.L[1])
	if e != api.OK {
		return 0, e
	}
	return constant(work(a, b))
}

// choice asks for the side that is taken alone.
func (ev *evaluator) choice(which, so, not api.X) (int, api.Errno) {
	v, e := ev.value(which)
	switch {
	case e != api.OK:
		return 0, e
	case v != 0:
		return ev.value(so)
	}
	return ev.value(not)
}

func number(v uint64) (int, api.Errno) {
	if v > api.MaxConst {
		return 0, api.ErrOver
	}
	return int(v), api.OK
}

// constant is a whole number, if a constant may be that.
func constant(v int) (int, api.Errno) {
	if !mayBe(v) {
		return 0, api.ErrOver
	}
	return v, api.OK
}

// mayBe tells whether a whole number is the value of a constant.
func mayBe(v int) bool { return 0 <= v && v <= api.MaxConst }

// truth is 1, if it is so.
func truth(so bool) int {
	if so {
		return 1
	}
	return 0
}
