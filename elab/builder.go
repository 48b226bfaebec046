package elab

import "filigree/api"

// builder makes a design: kinds is how an item of each kind is laid out, bits how many all signals have, total how much was counted.
type builder struct {
	modules map[string]*module
	kinds   map[int]func(s *scope, i *api.Item)
	design  api.Flat
	bits    int
	total   int
}

func newBuilder(f api.File) *builder {
	b := &builder{modules: map[string]*module{}}
	for k := range f.Modules {
		m := &f.Modules[k]
		b.modules[m.Name] = newModule(m)
	}
	b.kinds = b.itemKinds()
	return b
}

func (b *builder) count(n int) {
	b.total += n
	ensure(b.total <= api.MaxNodes, api.ErrBound)
}

// passes goes through the numbers of a loop.
func (b *builder) passes(s *scope, x []api.X, pass func(v int)) {
	first := s.eval(x[0])
	end := s.eval(x[1])
	for v := first; v < end; v++ {
		b.count(1)
		pass(v)
	}
}

// addSignal adds one that its scope tells, and whose name stands behind the scope's path.
func (b *builder) addSignal(s *scope, signal api.Signal) {
	ensure(len(b.design.Signals) < api.MaxSignals && b.bits+signal.W <= api.MaxBits, api.ErrBound)
	b.bits += signal.W
	s.signals[signal.Name] = len(b.design.Signals)
	signal.Name = s.path.to(signal.Name)
	b.design.Signals = append(b.design.Signals, signal)
}

func (b *builder) addProc(clocked bool, l []api.T) {
	ensure(len(b.design.Procs) < api.MaxProcs, api.ErrBound)
	b.design.Procs = append(b.design.Procs, api.Proc{Clocked: clocked, L: l})
}

// drive adds a process of wires that is one assignment.
func (b *builder) drive(target func() place, value func() api.E) {
	b.addProc(false, []api.T{b.assignment(target, value)})
}

// assignment is counted ahead of what is in it.
func (b *builder) assignment(target func() place, value func() api.E) api.T {
	b.count(1)
	to := target()
	return api.T{Op: api.AssignT, Sig: to.signal, Hi: to.hi, Lo: to.lo, E: []api.E{value()}}
}
