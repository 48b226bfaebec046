package eval

import "filigree/api"

// foldOne folds an expression whose parts are folded.
func foldOne(signals []api.Signal, e api.E) api.E {
	switch {
	case e.Op == api.NumE || e.Op == api.SigE:
		return e
	case e.Op == api.IndexE && isNumber(e.L[0]):
		return foldIndex(signals[e.Sig], e)
	case e.Op == api.CondE && isNumber(e.L[0]):
		return choice(e.L[0].V == 1, e.L[1], e.L[2])
	case areNumbers(e.L):
		return number(e.W, fromBelow(e, made).V)
	}
	return e
}

// foldIndex is the bit of a signal that a number tells, or, if the signal has no such bit, 0.
func foldIndex(s api.Signal, e api.E) api.E {
	n := e.L[0].V
	if n >= uint64(s.W) {
		return number(1, 0)
	}
	return api.E{Op: api.SigE, W: 1, Sig: e.Sig, Hi: int(n), Lo: int(n)}
}

func choice(so bool, yes, no api.E) api.E {
	if so {
		return yes
	}
	return no
}

func number(w int, v uint64) api.E {
	return api.E{Op: api.NumE, W: w, V: v}
}

func isNumber(e api.E) bool {
	return e.Op == api.NumE
}

func areNumbers(l []api.E) bool {
	for _, e := range l {
		if !isNumber(e) {
			return false
		}
	}
	return true
}
