package elab_test

import (
	"slices"
	"strconv"

	"filigree/api"
	"filigree/konst"
	"filigree/names"
)

// model says the chapter's sentences again: all names of a scope stand in lists, which grow, and are copied for what stands within; the first error stays, and nothing is done any more behind it.
type model struct {
	f       api.File
	d       api.Flat
	e       api.Errno
	counted int
}

type modelScope struct {
	constants []api.Named
	signals   []api.Named
	path      string
}

// within is a scope in another one, at a path.
func (s *modelScope) within(step string, constants ...api.Named) *modelScope {
	return &modelScope{slices.Concat(s.constants, constants), slices.Clone(s.signals), s.path + step}
}

func modelElab(f api.File, top string, params []api.Named) (api.Flat, api.Errno) {
	if e := names.Check(f); e != api.OK {
		return api.Flat{}, e
	}
	m := &model{f: f}
	one, ok := names.Find(f, top)
	m.want(ok, api.ErrNoModule)
	var told []api.Named
	for _, p := range params {
		m.want(slices.ContainsFunc(one.Params, func(q api.Bind) bool { return q.Name == p.Name }), api.ErrParam)
		_, twice := konst.Lookup(told, p.Name)
		m.want(!twice, api.ErrParam)
		m.want(p.V >= 0 && p.V <= api.MaxConst, api.ErrOver)
		told = append(told, p)
	}
	s := &modelScope{}
	m.head(s, one, told, api.InK, api.OutK)
	m.items(s, one.Items)
	if m.e != api.OK {
		return api.Flat{}, m.e
	}
	return m.d, api.OK
}

func (m *model) want(so bool, e api.Errno) {
	if !so && m.e == api.OK {
		m.e = e
	}
}

func (m *model) count(n int) {
	if m.e == api.OK {
		m.counted += n
		m.want(m.counted <= api.MaxNodes, api.ErrBound)
	}
}

func (m *model) eval(s *modelScope, x api.X) int {
	v, e := konst.Eval(x, s.constants)
	m.want(e == api.OK, e)
	return v
}

func (m *model) width(s *modelScope, x api.X) int {
	w := m.eval(s, x)
	m.want(1 <= w && w <= 64, api.ErrWide)
	return w
}

func (m *model) number(s *modelScope, x api.X) api.Bits {
	b, e := konst.Number(x, s.constants)
	m.want(e == api.OK, e)
	return b
}

func (m *model) signal(s *modelScope, name string, w, kind int, init uint64) {
	bits := w
	for _, one := range m.d.Signals {
		bits += one.W
	}
	m.want(len(m.d.Signals) < 512 && bits <= 4096, api.ErrBound)
	if m.e == api.OK {
		s.signals = append(s.signals, api.Named{Name: name, V: len(m.d.Signals)})
		m.d.Signals = append(m.d.Signals, api.Signal{Name: s.path + name, W: w, Kind: kind, Init: init})
	}
}

func (m *model) process(clocked bool, l ...api.T) {
	m.want(len(m.d.Procs) < 1024, api.ErrBound)
	if m.e == api.OK {
		m.d.Procs = append(m.d.Procs, api.Proc{Clocked: clocked, L: l})
	}
}

func (m *model) head(s *modelScope, one api.Module, told []api.Named, in, out int) {
	for _, p := range one.Params {
		v, ok := konst.Lookup(told, p.Name)
		if !ok {
			v = m.eval(s, p.X)
		}
		s.constants = append(s.constants, api.Named{Name: p.Name, V: v})
	}
	for _, p := range one.Ports {
		kind := in
		if p.Out {
			kind = out
		}
		m.signal(s, p.Name, m.width(s, p.W), kind, 0)
	}
}

func (m *model) items(s *modelScope, l []api.Item) {
	for _, i := range l {
		m.count(1)
		if m.e == api.OK {
			m.item(s, i)
		}
	}
}

func (m *model) item(s *modelScope, i api.Item) {
	switch i.Op {
	case api.ConstI:
		s.constants = append(s.constants, api.Named{Name: i.Name, V: m.eval(s, i.X[0])})
	case api.WireI:
		m.signal(s, i.Name, m.width(s, i.X[0]), api.WireK, 0)
	case api.RegI:
		w := m.width(s, i.X[0])
		m.signal(s, i.Name, w, api.RegK, m.number(s, i.X[1]).V)
	case api.AssignI:
		m.process(false, m.statement(s, api.S{Op: api.AssignS, X: i.X}, false))
	case api.CombI, api.TickI:
		m.process(i.Op == api.TickI, m.statements(s, i.S, i.Op == api.TickI)...)
	case api.CheckI:
		e := m.top(s, i.X[0])
		m.d.Checks = append(m.d.Checks, api.Check{Name: s.path + i.Name, E: e})
	case api.IfI:
		v := m.eval(s, i.X[0])
		if m.e == api.OK && v != 0 {
			m.items(s, i.L)
		} else if m.e == api.OK {
			m.items(s, i.Else)
		}
	case api.ForI:
		m.passes(s, i.X, func(v int) {
			m.items(s.within(i.Name+"["+strconv.Itoa(v)+"].", api.Named{Name: i.Of, V: v}), i.L)
		})
	case api.InstI:
		m.instance(s, i)
	}
}

func (m *model) passes(s *modelScope, x []api.X, pass func(v int)) {
	from := m.eval(s, x[0])
	to := m.eval(s, x[1])
	for v := from; v < to && m.e == api.OK; v++ {
		m.count(1)
		pass(v)
	}
}

func (m *model) instance(s *modelScope, i api.Item) {
	one, _ := names.Find(m.f, i.Of)
	var told []api.Named
	for _, p := range i.Params {
		m.want(slices.ContainsFunc(one.Params, func(q api.Bind) bool { return q.Name == p.Name }), api.ErrParam)
		_, twice := konst.Lookup(told, p.Name)
		m.want(!twice, api.ErrParam)
		told = append(told, api.Named{Name: p.Name, V: m.eval(s, p.X)})
	}
	for k, b := range i.Binds {
		m.want(slices.ContainsFunc(one.Ports, func(p api.Port) bool { return p.Name == b.Name }), api.ErrPort)
		m.want(!slices.ContainsFunc(i.Binds[:k], func(c api.Bind) bool { return c.Name == b.Name }), api.ErrPort)
	}
	bind := func(name string) int {
		return slices.IndexFunc(i.Binds, func(b api.Bind) bool { return b.Name == name })
	}
	for _, p := range one.Ports {
		m.want(p.Out || bind(p.Name) >= 0, api.ErrPort)
	}
	in := &modelScope{path: s.path + i.Name + "."}
	m.head(in, one, told, api.WireK, api.WireK)
	for _, p := range one.Ports {
		if m.e == api.OK && !p.Out {
			m.count(1)
			to := m.whole(in, p.Name)
			to.Op, to.E = api.AssignT, []api.E{m.top(s, i.Binds[bind(p.Name)].X)}
			m.process(false, to)
		}
	}
	m.items(in, one.Items)
	for _, p := range one.Ports {
		if m.e == api.OK && p.Out && bind(p.Name) >= 0 {
			m.count(1)
			to := m.target(s, i.Binds[bind(p.Name)].X, false)
			m.count(1)
			from := m.whole(in, p.Name)
			to.Op, to.E = api.AssignT, []api.E{{Op: api.SigE, Sig: from.Sig, Hi: from.Hi}}
			m.process(false, to)
		}
	}
}

// whole is a statement of a signal's bits.
func (m *model) whole(s *modelScope, name string) api.T {
	n, ok := konst.Lookup(s.signals, name)
	m.want(ok, api.ErrNoName)
	if m.e != api.OK {
		return api.T{}
	}
	return api.T{Sig: n, Hi: m.d.Signals[n].W - 1}
}

// bits is a statement of the bits that a NameX, a SliceX or an IndexX says.
func (m *model) bits(s *modelScope, x api.X) api.T {
	t := m.whole(s, x.Name)
	w := t.Hi + 1
	if m.e != api.OK || x.Op == api.NameX {
		return t
	}
	t.Hi = m.eval(s, x.L[0])
	t.Lo = t.Hi
	if x.Op == api.SliceX {
		t.Lo = m.eval(s, x.L[1])
	}
	m.want(t.Lo <= t.Hi && t.Hi < w, api.ErrSlice)
	return t
}

func (m *model) target(s *modelScope, x api.X, clocked bool) api.T {
	m.want(slices.Contains([]int{api.NameX, api.SliceX, api.IndexX}, x.Op), api.ErrRole)
	t := m.bits(s, x)
	if m.e == api.OK {
		kinds := []int{api.WireK, api.OutK}
		if clocked {
			kinds = []int{api.RegK}
		}
		m.want(slices.Contains(kinds, m.d.Signals[t.Sig].Kind), api.ErrRole)
	}
	return t
}

func (m *model) statements(s *modelScope, l []api.S, clocked bool) []api.T {
	var made []api.T
	for _, one := range l {
		if m.e == api.OK {
			made = append(made, m.statement(s, one, clocked))
		}
	}
	return made
}

func (m *model) statement(s *modelScope, one api.S, clocked bool) api.T {
	var t api.T
	m.count(1)
	switch one.Op {
	case api.AssignS:
		t = m.target(s, one.X[0], clocked)
		t.Op, t.E = api.AssignT, []api.E{m.top(s, one.X[1])}
	case api.IfS:
		t.Op, t.E = api.IfT, []api.E{m.top(s, one.X[0])}
		t.L = m.statements(s, one.L[:1], clocked)
		if one.L[1].Op == api.BlockS {
			return api.T{Op: t.Op, E: t.E, L: append(t.L, m.statements(s, one.L[1:], clocked)...)}
		}
		m.count(1)
		t.L = append(t.L, api.T{Op: api.BlockT, L: m.statements(s, one.L[1:], clocked)})
	case api.CaseS:
		t.Op, t.E = api.CaseT, []api.E{m.top(s, one.X[0])}
		t.L = m.statements(s, one.L, clocked)
	case api.ArmS:
		t.Op = api.ArmT
		for _, x := range one.X {
			n := m.number(s, x)
			m.count(1)
			t.E = append(t.E, api.E{Op: api.NumE, W: n.W, V: n.V})
		}
		t.L = m.statements(s, one.L, clocked)
	case api.BlockS:
		t.Op, t.L = api.BlockT, m.statements(s, one.L, clocked)
	case api.ForS:
		t.Op = api.BlockT
		m.passes(s, one.X, func(v int) {
			t.L = append(t.L, m.statements(s.within("", api.Named{Name: one.Name, V: v}), one.L, clocked)...)
		})
	}
	return t
}

// top is an expression by itself, whose nodes are counted.
func (m *model) top(s *modelScope, x api.X) api.E {
	e := m.expression(s, x)
	m.count(nodes(e))
	return e
}

func nodes(e api.E) int {
	n := 1
	for _, part := range e.L {
		n += nodes(part)
	}
	return n
}

func (m *model) expression(s *modelScope, x api.X) api.E {
	var e api.E
	if m.e != api.OK {
		return e
	}
	switch x.Op {
	case api.NumX:
		return api.E{Op: api.NumE, W: x.W, V: x.V}
	case api.NameX, api.SliceX:
		if v, ok := konst.Lookup(s.constants, x.Name); ok && x.Op == api.NameX {
			return api.E{Op: api.NumE, V: uint64(v)}
		}
		t := m.bits(s, x)
		return api.E{Op: api.SigE, Sig: t.Sig, Hi: t.Hi, Lo: t.Lo}
	case api.IndexX:
		e = api.E{Op: api.IndexE, Sig: m.whole(s, x.Name).Sig, L: m.parts(s, x.L)}
	case api.UnX:
		e = api.E{Op: api.UnE, N: x.N, L: m.parts(s, x.L)}
	case api.BinX:
		e = api.E{Op: api.BinE, N: x.N, L: m.parts(s, x.L)}
	case api.CondX:
		e = api.E{Op: api.CondE, L: m.parts(s, x.L)}
	case api.CatX:
		e = api.E{Op: api.CatE, L: m.parts(s, x.L)}
	case api.RepX:
		times := m.width(s, x.L[0])
		part := m.expression(s, x.L[1])
		if m.e == api.OK {
			e = api.E{Op: api.CatE, L: slices.Repeat([]api.E{part}, times)}
		}
	case api.ExtX:
		w := m.width(s, x.L[0])
		e = api.E{Op: api.ExtE, N: x.N, W: w, L: m.parts(s, x.L[1:])}
	}
	if m.e == api.OK {
		m.want(nodes(e) <= 65536, api.ErrBound)
	}
	return e
}

func (m *model) parts(s *modelScope, l []api.X) []api.E {
	var made []api.E
	for _, x := range l {
		made = append(made, m.expression(s, x))
	}
	return made
}
