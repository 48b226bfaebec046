package elab

import "filigree/api"

// place is bits of a signal.
type place struct{ signal, hi, lo int }

// whole is all bits of a signal.
func (b *builder) whole(signal int) place {
	return place{signal: signal, hi: b.design.Signals[signal].W - 1}
}

// read is an expression of bits.
func (at place) read() api.E {
	return api.E{Op: api.SigE, Sig: at.signal, Hi: at.hi, Lo: at.lo}
}

func signalOf(s *scope, name string) int {
	signal, ok := s.signal(name)
	ensure(ok, api.ErrNoName)
	return signal
}

// place is the bits that a name, a slice or an index of constants says.
func (b *builder) place(s *scope, x api.X) place {
	at := b.whole(signalOf(s, x.Name))
	switch x.Op {
	case api.SliceX:
		hi := s.eval(x.L[0])
		return at.part(hi, s.eval(x.L[1]))
	case api.IndexX:
		bit := s.eval(x.L[0])
		return at.part(bit, bit)
	}
	return at
}

// part is some bits of all those of a signal; no constant is below 0.
func (at place) part(hi, lo int) place {
	ensure(lo <= hi && hi <= at.hi, api.ErrSlice)
	return place{signal: at.signal, hi: hi, lo: lo}
}

// target is a place that a process may drive. What an instance's port is bound to may be any expression.
func (b *builder) target(s *scope, x api.X, clocked bool) place {
	ensure(x.Op == api.NameX || x.Op == api.SliceX || x.Op == api.IndexX, api.ErrRole)
	to := b.place(s, x)
	kind := b.design.Signals[to.signal].Kind
	if clocked {
		ensure(kind == api.RegK, api.ErrRole)
	} else {
		ensure(kind == api.WireK || kind == api.OutK, api.ErrRole)
	}
	return to
}
