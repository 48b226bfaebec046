package elab

import "filigree/api"

// body is the statements of a process, which are being made.
type body struct {
	*builder
	clocked bool
}

func (y body) statements(s *scope, l []api.S) []api.T {
	var made []api.T
	for _, one := range l {
		made = append(made, y.statement(s, one))
	}
	return made
}

// statement is counted ahead of all that is in it.
func (y body) statement(s *scope, one api.S) api.T {
	if one.Op == api.AssignS {
		return y.assignment(func() place { return y.target(s, one.X[0], y.clocked) }, func() api.E { return y.value(s, one.X[1]) })
	}
	y.count(1)
	switch one.Op {
	case api.IfS:
		which := y.value(s, one.X[0])
		so := y.statement(s, one.L[0])
		return api.T{Op: api.IfT, E: []api.E{which}, L: []api.T{so, y.statement(s, block(one.L[1]))}}
	case api.CaseS:
		of := y.value(s, one.X[0])
		return api.T{Op: api.CaseT, E: []api.E{of}, L: y.statements(s, one.L)}
	case api.ArmS:
		labels := y.labels(s, one.X)
		return api.T{Op: api.ArmT, E: labels, L: y.statements(s, one.L)}
	case api.ForS:
		return api.T{Op: api.BlockT, L: y.passed(s, one)}
	}
	return api.T{Op: api.BlockT, L: y.statements(s, one.L)}
}

// block is a statement that is one, or holds the if that stands in its place.
func block(one api.S) api.S {
	if one.Op == api.IfS {
		return api.S{Op: api.BlockS, L: []api.S{one}}
	}
	return one
}

func (y body) labels(s *scope, l []api.X) []api.E {
	var made []api.E
	for _, x := range l {
		n := s.number(x)
		made = append(made, y.counted(api.E{Op: api.NumE, W: n.W, V: n.V}))
	}
	return made
}

func (y body) passed(s *scope, one api.S) []api.T {
	var made []api.T
	y.passes(s, one.X, func(v int) {
		within := newScope(s, s.path)
		within.constants[one.Name] = v
		made = append(made, y.statements(within, one.L)...)
	})
	return made
}
