package madeup

import "filigree/api"

// Wipe writes zeros into all lists of a design.
func Wipe(d api.Flat) {
	for _, p := range d.Procs {
		wipeStatements(p.L)
	}
	for _, c := range d.Checks {
		wipeExpressions(c.E.L)
	}
	clear(d.Procs)
	clear(d.Signals)
	clear(d.Checks)
}

func wipeStatements(l []api.T) {
	for _, t := range l {
		wipeExpressions(t.E)
		wipeStatements(t.L)
	}
	clear(l)
}

func wipeExpressions(l []api.E) {
	for _, e := range l {
		wipeExpressions(e.L)
	}
	clear(l)
}
