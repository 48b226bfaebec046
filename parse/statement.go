package parse

import (
	"slices"

	"filigree/api"
)

// process is the statements of a block whose assignments have that sign.
func (r *reader) process(becomes string) []api.S {
	r.becomes = becomes
	return r.statements()
}

// statements are those between { and }.
func (r *reader) statements() []api.S {
	return braces(r, (*reader).statement)
}

func (r *reader) block() api.S {
	return api.S{Op: api.BlockS, L: r.statements()}
}

func (r *reader) statement() api.S {
	switch {
	case r.is("{"):
		return r.block()
	case r.is("if"):
		return r.ifs()
	case r.took("case"):
		return r.cases()
	case r.took("for"):
		s := api.S{Op: api.ForS}
		s.Name, s.X = r.steps()
		s.L = r.statements()
		return s
	}
	return api.S{Op: api.AssignS, X: r.assignment(r.becomes)}
}

// assignment is a target and its value.
func (r *reader) assignment(becomes string) []api.X {
	target := r.target()
	l := append([]api.X{target}, r.behind(becomes)...)
	r.want(";")
	return l
}

// ifs is an if, with those that stand each behind the else of the one ahead.
func (r *reader) ifs() api.S {
	var chain []api.S
	last := api.S{Op: api.BlockS}
	for {
		r.want("if")
		s := api.S{Op: api.IfS, X: []api.X{r.inside("(", ")")}}
		s.L = []api.S{r.block()}
		if len(chain) < api.MaxDeep {
			chain = append(chain, s)
		}
		if !r.took("else") {
			break
		}
		if !r.is("if") {
			last = r.block()
			break
		}
	}
	for _, s := range slices.Backward(chain) {
		s.L = append(s.L, last)
		last = s
	}
	return last
}

func (r *reader) cases() api.S {
	s := api.S{Op: api.CaseS, X: []api.X{r.inside("(", ")")}}
	r.within("{", "}", func() {
		for !r.is("else") && !r.is("}") {
			labels := list(r, (*reader).expression)
			s.L = append(s.L, r.arm(labels))
		}
		last := api.S{Op: api.ArmS}
		if r.took("else") {
			last = r.arm(nil)
		}
		s.L = append(s.L, last)
	})
	return s
}

// arm is the one of these labels.
func (r *reader) arm(labels []api.X) api.S {
	r.want(":")
	return api.S{Op: api.ArmS, X: labels, L: r.statements()}
}
