package elab_test

import (
	"testing"

	"filigree/api"
)

// shape is what a design may be before its widths are told: signals, bits, and what stands where. It counts nodes.
type shape struct {
	d     api.Flat
	wrong string
	nodes int
}

// mayBe wants that a design may be, and that no two of its signals have the same name.
func mayBe(t *testing.T, what string, d api.Flat) {
	t.Helper()
	if wrong := mayNotBe(d); wrong != "" {
		t.Errorf("%s: %s in %s", what, wrong, show(d))
	}
}

// mayNotBe is what is wrong with a design, or nothing.
func mayNotBe(d api.Flat) string {
	s := &shape{d: d}
	s.signals()
	for _, p := range d.Procs {
		s.statements(p.L, p.Clocked)
	}
	for _, c := range d.Checks {
		s.want(c.Name != "", "a check without a name")
		s.expression(c.E)
	}
	s.want(len(d.Signals) <= api.MaxSignals && len(d.Procs) <= api.MaxProcs && s.nodes <= api.MaxNodes, "too much")
	return s.wrong
}

func (s *shape) want(so bool, wrong string) {
	if !so && s.wrong == "" {
		s.wrong = wrong
	}
}

func (s *shape) signals() {
	names, bits := map[string]bool{}, 0
	for _, one := range s.d.Signals {
		s.want(one.Name != "" && !names[one.Name], "a name that two signals have")
		s.want(1 <= one.W && one.W <= api.MaxWidth && 1 <= one.Kind && one.Kind <= 4 && (one.Init == 0 || one.Kind == api.RegK), "a signal that may not be")
		names[one.Name] = true
		bits += one.W
	}
	s.want(bits <= api.MaxBits, "too many bits")
}

func (s *shape) statements(l []api.T, clocked bool) {
	for _, t := range l {
		s.want(t.Op != api.ArmT, "an arm of nothing")
		s.statement(t, clocked)
	}
}

func (s *shape) statement(t api.T, clocked bool) {
	s.nodes++
	s.expressions(t.E)
	if t.Op != api.AssignT {
		s.want(t.Sig == 0 && t.Hi == 0 && t.Lo == 0, "bits of no assignment")
	}
	switch t.Op {
	case api.AssignT:
		s.want(len(t.E) == 1 && len(t.L) == 0, "an assignment that may not be")
		s.bits(t.Sig, t.Hi, t.Lo)
		kind := s.kind(t.Sig)
		s.want(clocked && kind == api.RegK || !clocked && (kind == api.WireK || kind == api.OutK), "something that is driven where it may not be")
	case api.IfT:
		s.want(len(t.E) == 1 && len(t.L) == 2 && t.L[0].Op == api.BlockT && t.L[1].Op == api.BlockT, "an if that may not be")
		s.statements(t.L, clocked)
	case api.CaseT:
		s.want(len(t.E) == 1 && len(t.L) >= 1, "a case that may not be")
		for i, arm := range t.L {
			s.arm(arm, i == len(t.L)-1, clocked)
		}
	case api.BlockT:
		s.want(len(t.E) == 0, "a block that may not be")
		s.statements(t.L, clocked)
	default:
		s.want(false, "a statement of no kind")
	}
}

func (s *shape) arm(t api.T, last, clocked bool) {
	s.nodes++
	s.want(t.Op == api.ArmT && last == (len(t.E) == 0) && t.Sig == 0 && t.Hi == 0 && t.Lo == 0, "an arm that may not be")
	for _, e := range t.E {
		s.want(e.Op == api.NumE, "a label that is no number")
	}
	s.expressions(t.E)
	s.statements(t.L, clocked)
}

func (s *shape) kind(signal int) int {
	if signal < 0 || signal >= len(s.d.Signals) {
		return 0
	}
	return s.d.Signals[signal].Kind
}

func (s *shape) bits(signal, hi, lo int) {
	s.want(s.kind(signal) != 0 && 0 <= lo && lo <= hi && hi < s.d.Signals[max(0, signal)].W, "bits that there are not")
}

func (s *shape) expressions(l []api.E) {
	for _, e := range l {
		s.expression(e)
	}
}

func (s *shape) expression(e api.E) {
	s.nodes++
	zero := e
	zero.Op, zero.L = 0, nil
	parts := 1
	switch e.Op {
	case api.NumE:
		parts, zero.V = 0, 0
		s.want(0 <= e.W && e.W <= 64 && (e.W == 0 || e.W == 64 || e.V>>e.W == 0), "a number that may not be")
		zero.W = 0
	case api.SigE:
		s.bits(e.Sig, e.Hi, e.Lo)
		parts, zero.Sig, zero.Hi, zero.Lo = 0, 0, 0, 0
	case api.IndexE:
		s.want(s.kind(e.Sig) != 0, "a signal that is not there")
		zero.Sig = 0
	case api.UnE:
		s.operation(e.N, api.NotO, api.NoO)
		zero.N = 0
	case api.BinE:
		s.operation(e.N, api.AndO, api.OneO)
		parts, zero.N = 2, 0
	case api.CondE:
		parts = 3
	case api.CatE:
		parts = max(1, len(e.L))
	case api.ExtE:
		s.operation(e.N, api.ZextO, api.CutO)
		s.want(1 <= e.W && e.W <= 64, "a width that may not be")
		zero.N, zero.W = 0, 0
	default:
		s.want(false, "an expression of no kind")
	}
	s.want(len(e.L) == parts, "another number of parts")
	s.want(zero.W == 0 && zero.V == 0 && zero.Sig == 0 && zero.Hi == 0 && zero.Lo == 0 && zero.N == 0, "a field that should be zero")
	s.expressions(e.L)
}

func (s *shape) operation(n, first, last int) {
	s.want(first <= n && n <= last, "no operation")
}
