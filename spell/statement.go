package spell

import "filigree/api"

// process is a kind of process, told by the sign of the assignments that stand in it.
type process string

const (
	inComb process = "="
	onTick process = "<="
)

func (p process) statement(s api.S) tokens {
	switch s.Op {
	case api.AssignS:
		return p.assignment(s.X)
	case api.IfS:
		return chain(word("if"), round(expression(s.X[0])), p.statement(s.L[0]), p.otherwise(s.L[1]))
	case api.CaseS:
		last := len(s.L) - 1
		return chain(word("case"), round(expression(s.X[0])), curly(chain(each(s.L[:last], p.arm), p.lastArm(s.L[last]))))
	case api.ForS:
		return chain(word("for"), round(steps(s.Name, s.X)), p.block(s.L))
	}
	return p.block(s.L)
}

// assignment is a target and its value.
func (p process) assignment(l []api.X) tokens {
	return chain(span(l, string(p)), sign(";"))
}

func (p process) block(l []api.S) tokens {
	return curly(each(l, p.statement))
}

// otherwise is what stands behind the first block of an if: an empty block is as good as none.
func (p process) otherwise(s api.S) tokens {
	if s.Op == api.BlockS && len(s.L) == 0 {
		return chain()
	}
	return chain(word("else"), p.statement(s))
}

func (p process) arm(s api.S) tokens {
	return chain(list(s.X, expression), sign(":"), p.block(s.L))
}

// lastArm is the arm without labels: without statements it is as good as none.
func (p process) lastArm(s api.S) tokens {
	if len(s.L) == 0 {
		return chain()
	}
	return chain(word("else"), sign(":"), p.block(s.L))
}

// steps is a loop's variable, and from where up to where it goes.
func steps(variable string, ends []api.X) tokens {
	return chain(name(variable), sign("="), span(ends, ".."))
}
