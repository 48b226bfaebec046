package sized

import "filigree/api"

// copyFlat is a design that shares no list with what it is of: widths may be written into it.
func copyFlat(d api.Flat) api.Flat {
	return api.Flat{
		Signals: copyAll(d.Signals, func(s api.Signal) api.Signal { return s }),
		Procs:   copyAll(d.Procs, copyProc),
		Checks:  copyAll(d.Checks, copyCheck),
	}
}

func copyProc(p api.Proc) api.Proc {
	p.L = copyAll(p.L, copyT)
	return p
}

func copyCheck(c api.Check) api.Check {
	c.E = copyE(c.E)
	return c
}

func copyT(t api.T) api.T {
	t.E = copyAll(t.E, copyE)
	t.L = copyAll(t.L, copyT)
	return t
}

func copyE(e api.E) api.E {
	e.L = copyAll(e.L, copyE)
	return e
}

func copyAll[N any](l []N, one func(n N) N) []N {
	if len(l) == 0 {
		return nil
	}
	made := make([]N, len(l))
	for k, n := range l {
		made[k] = one(n)
	}
	return made
}
