package elab

import (
	"slices"
	"strings"

	"filigree/api"
	"filigree/ast"
	"filigree/konst"
)

// scope is the names that were told so far, of constants (their values) and of signals (their numbers); it stands in the one around it, if there is one. No name is told in both: layer 7 sees to that.
type scope struct {
	around             *scope
	path               *path
	constants, signals map[string]int
}

// path is the steps from the top to a scope. A text is made of them only for what is named: most passes of loops name nothing.
type path struct {
	around *path
	step   string
}

func newScope(around *scope, p *path) *scope {
	return &scope{around: around, path: p, constants: map[string]int{}, signals: map[string]int{}}
}

func (s *scope) constant(name string) (int, bool) {
	return s.look(name, func(at *scope) map[string]int { return at.constants })
}

func (s *scope) signal(name string) (int, bool) {
	return s.look(name, func(at *scope) map[string]int { return at.signals })
}

func (s *scope) look(name string, told func(at *scope) map[string]int) (int, bool) {
	for at := s; at != nil; at = at.around {
		if n, ok := told(at)[name]; ok {
			return n, true
		}
	}
	return 0, false
}

// env is the constants that stand in an expression: they are mostly few, and those of the scope may be many.
func (s *scope) env(x api.X) []api.Named {
	var env []api.Named
	for _, name := range ast.Free(x) {
		if v, ok := s.constant(name); ok {
			env = append(env, api.Named{Name: name, V: v})
		}
	}
	return env
}

func (s *scope) eval(x api.X) int { return sure(konst.Eval(x, s.env(x))) }

func (s *scope) width(x api.X) int { return sure(konst.Width(x, s.env(x))) }

func (s *scope) number(x api.X) api.Bits { return sure(konst.Number(x, s.env(x))) }

// within is a path that goes a step on.
func (p *path) within(step string) *path { return &path{around: p, step: step} }

// to is the path and a name.
func (p *path) to(name string) string {
	steps := []string{name}
	for at := p; at != nil; at = at.around {
		steps = append(steps, at.step)
	}
	slices.Reverse(steps)
	return strings.Join(steps, "")
}
