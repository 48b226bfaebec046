package sized

import "filigree/api"

// sizer writes widths into expressions. What it comes to first that is wrong is its fault; it goes on behind that, but what it writes then means nothing.
type sizer struct {
	fault api.Errno
}

func (s *sizer) want(so bool, e api.Errno) {
	if !so && s.fault == api.OK {
		s.fault = e
	}
}

// size sizes an expression, and all in it, to w, or, if that is none, to its own width.
func (s *sizer) size(e *api.E, w int) {
	own := ownWidth(*e)
	if w == none {
		w = orUsual(own)
	}
	e.W = w
	switch e.Op {
	case api.NumE:
		s.want(own == none || own == w, api.ErrSize)
		s.want(holds(w, e.V), api.ErrFit)
	case api.UnE, api.BinE:
		s.operation(e)
	case api.CondE:
		s.bits(e.L[:1])
		s.sizeAll(e.L[1:], w)
	case api.CatE:
		s.want(own <= api.MaxWidth, api.ErrSize)
		fallthrough
	case api.SigE, api.IndexE, api.ExtE:
		s.want(own == w, api.ErrSize)
		s.sizeAll(e.L, none)
	}
	// How wide the part of an ExtE is, is known only here.
	if e.Op == api.ExtE {
		s.want(extends(e.N, e.L[0].W, w), api.ErrSize)
	}
}

// operation sizes the parts of one that has its width.
func (s *sizer) operation(e *api.E) {
	parts := none
	switch e.N {
	case api.NotO, api.NegO, api.AndO, api.OrO, api.XorO, api.AddO, api.SubO, api.MulO:
		s.sizeAll(e.L, e.W)
	case api.ShlO, api.ShrO:
		s.sizeAll(e.L[:1], e.W)
		s.sizeAll(e.L[1:], none)
	case api.NoO, api.BothO, api.OneO:
		s.want(e.W == 1, api.ErrSize)
		s.bits(e.L)
	case api.EqO, api.NeO, api.LtO, api.LeO, api.GtO, api.GeO:
		parts = orUsual(ownWidthOfEither(e.L[0], e.L[1]))
		fallthrough
	case api.AllO, api.AnyO, api.OddO:
		s.want(e.W == 1, api.ErrSize)
		s.sizeAll(e.L, parts)
	}
}

func (s *sizer) sizeAll(l []api.E, w int) {
	for k := range l {
		s.size(&l[k], w)
	}
}

// bits sizes expressions each of which is to be one bit.
func (s *sizer) bits(l []api.E) {
	for k := range l {
		s.bit(&l[k])
	}
}

func (s *sizer) bit(e *api.E) {
	own := ownWidth(*e)
	s.want(own == none || own == 1, api.ErrBit)
	s.size(e, 1)
}

// extends tells whether an operation that gives another width makes so many bits of so many.
func extends(op, from, to int) bool {
	if op == api.CutO {
		return from >= to
	}
	return from <= to
}

// design sizes all expressions of one.
func (s *sizer) design(d api.Flat) {
	for _, signal := range d.Signals {
		s.want(holds(signal.W, signal.Init), api.ErrFit)
	}
	for _, p := range d.Procs {
		b := body{sizer: s, signals: d.Signals, clocked: p.Clocked}
		b.statements(p.L)
	}
	for k := range d.Checks {
		s.bit(&d.Checks[k].E)
	}
}

// body is a process whose expressions are sized.
type body struct {
	*sizer
	signals []api.Signal
	clocked bool
}

func (b body) statements(l []api.T) {
	for _, t := range l {
		b.statement(t)
	}
}

func (b body) statement(t api.T) {
	switch t.Op {
	case api.AssignT:
		b.want(b.drives(b.signals[t.Sig].Kind), api.ErrRole)
		b.sizeAll(t.E, t.Hi-t.Lo+1)
	case api.CaseT:
		b.sizeAll(t.E, none)
		for _, arm := range t.L {
			b.sizeAll(arm.E, t.E[0].W)
			b.statements(arm.L)
		}
	case api.IfT:
		b.bits(t.E)
		fallthrough
	case api.BlockT:
		b.statements(t.L)
	}
}

// drives tells whether the process may drive signals of a kind.
func (b body) drives(kind int) bool {
	if b.clocked {
		return kind == api.RegK
	}
	return kind == api.WireK || kind == api.OutK
}
