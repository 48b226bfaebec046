package sized

import "filigree/api"

// mayBeSignals tells whether signals may be; their number is not asked.
func mayBeSignals(l []api.Signal) bool {
	names := make(map[string]bool, len(l))
	for _, s := range l {
		if s.Name == "" || names[s.Name] || !mayBeSignal(s) {
			return false
		}
		names[s.Name] = true
	}
	return true
}

func mayBeSignal(s api.Signal) bool {
	return isWidth(s.W) && api.InK <= s.Kind && s.Kind <= api.RegK && (s.Init == 0 || s.Kind == api.RegK)
}

// kind is what an expression of a kind has: how many parts, and which operations its N may be.
type kind struct {
	parts       int
	more        bool // parts is the least number of them
	first, last int
}

var kinds = [...]kind{
	api.NumE:   {},
	api.SigE:   {},
	api.IndexE: {parts: 1},
	api.UnE:    {parts: 1, first: api.NotO, last: api.NoO},
	api.BinE:   {parts: 2, first: api.AndO, last: api.OneO},
	api.CondE:  {parts: 3},
	api.CatE:   {parts: 1, more: true},
	api.ExtE:   {parts: 1, first: api.ZextO, last: api.CutO},
}

// shapes tells what has a shape where there are these signals.
type shapes []api.Signal

func (s shapes) design(d api.Flat) bool {
	for _, p := range d.Procs {
		if !all(p.L, s.statement) {
			return false
		}
	}
	return all(d.Checks, func(c api.Check) bool { return s.expression(c.E) })
}

// statement tells whether one that is no arm has a shape.
func (s shapes) statement(t api.T) bool {
	switch t.Op {
	case api.AssignT:
		return s.haveBits(t.Sig, t.Hi, t.Lo) && len(t.E) == 1 && all(t.E, s.expression) && len(t.L) == 0
	case api.IfT:
		return noBits(t) && len(t.E) == 1 && all(t.E, s.expression) && len(t.L) == 2 && all(t.L, s.block)
	case api.CaseT:
		return noBits(t) && len(t.E) == 1 && all(t.E, s.expression) && s.arms(t.L)
	}
	return s.block(t)
}

func (s shapes) block(t api.T) bool {
	return t.Op == api.BlockT && noBits(t) && len(t.E) == 0 && all(t.L, s.statement)
}

// arms tells whether statements are the arms of a case: the last one, and it alone, has no labels.
func (s shapes) arms(l []api.T) bool {
	for k, arm := range l {
		isLast := k == len(l)-1
		if arm.Op != api.ArmT || !noBits(arm) || isLast != (len(arm.E) == 0) || !all(arm.E, s.label) || !all(arm.L, s.statement) {
			return false
		}
	}
	return len(l) > 0
}

func (s shapes) label(e api.E) bool {
	return e.Op == api.NumE && s.expression(e)
}

func (s shapes) expression(e api.E) bool {
	if e.Op < api.NumE || e.Op > api.ExtE {
		return false
	}
	k := kinds[e.Op]
	return numberFits(e) && s.bitsFit(e) && k.first <= e.N && e.N <= k.last &&
		(len(e.L) == k.parts || k.more && len(e.L) > k.parts) && all(e.L, s.expression)
}

// numberFits tells whether an expression has a number, and a width, as its kind wants them: those of most kinds may have any width.
func numberFits(e api.E) bool {
	switch e.Op {
	case api.NumE:
		return e.W == none || isWidth(e.W) && holds(e.W, e.V)
	case api.ExtE:
		return isWidth(e.W) && e.V == 0
	}
	return e.V == 0
}

// bitsFit tells whether an expression has a signal, and bits of it, as its kind wants them.
func (s shapes) bitsFit(e api.E) bool {
	switch e.Op {
	case api.SigE:
		return s.haveBits(e.Sig, e.Hi, e.Lo)
	case api.IndexE:
		return s.have(e.Sig) && e.Hi == 0 && e.Lo == 0
	}
	return e.Sig == 0 && e.Hi == 0 && e.Lo == 0
}

func (s shapes) have(signal int) bool {
	return 0 <= signal && signal < len(s)
}

func (s shapes) haveBits(signal, hi, lo int) bool {
	return s.have(signal) && 0 <= lo && lo <= hi && hi < s[signal].W
}

func noBits(t api.T) bool {
	return t.Sig == 0 && t.Hi == 0 && t.Lo == 0
}

func all[N any](l []N, so func(n N) bool) bool {
	for _, n := range l {
		if !so(n) {
			return false
		}
	}
	return true
}
