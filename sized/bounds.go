package sized

import "filigree/api"

// meter counts nodes, until there is one that is one too many, or too deep: what is behind it may be endless.
type meter struct {
	nodes int
}

// withinBounds tells whether an expression is neither too great nor too deep.
func withinBounds(e api.E) bool {
	m := meter{}
	return m.expression(e, 1)
}

// designWithinBounds tells whether there is not too much of anything in a design.
func designWithinBounds(d api.Flat) bool {
	if len(d.Signals) > api.MaxSignals || len(d.Procs) > api.MaxProcs || !fewBits(d.Signals) {
		return false
	}
	m := meter{}
	return m.design(d)
}

// fewBits stops ahead of a sum that is too great: a width may be any number.
func fewBits(l []api.Signal) bool {
	left := api.MaxBits
	for _, s := range l {
		if s.W > left {
			return false
		}
		left -= max(s.W, 0)
	}
	return true
}

func (m *meter) design(d api.Flat) bool {
	for _, p := range d.Procs {
		if !each(p.L, 1, m.statement) {
			return false
		}
	}
	for _, c := range d.Checks {
		if !m.expression(c.E, 1) {
			return false
		}
	}
	return true
}

func (m *meter) statement(t api.T, depth int) bool {
	return m.node(depth) && each(t.E, depth+1, m.expression) && each(t.L, depth+1, m.statement)
}

func (m *meter) expression(e api.E, depth int) bool {
	return m.node(depth) && each(e.L, depth+1, m.expression)
}

func (m *meter) node(depth int) bool {
	m.nodes++
	return m.nodes <= api.MaxNodes && depth <= api.MaxDeep
}

// each goes through all nodes of a list, which stand equally deep.
func each[N any](l []N, depth int, through func(n N, depth int) bool) bool {
	for _, n := range l {
		if !through(n, depth) {
			return false
		}
	}
	return true
}
