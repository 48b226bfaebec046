package elab_test

import (
	"fmt"
	"slices"
	"testing"

	"filigree/api"
	"filigree/elab"
)

// chance is numbers that look like chance, and are the same in each run.
type chance uint64

func (c *chance) below(n int) int {
	*c = *c*6364136223846793005 + 1442695040888963407
	return int(uint64(*c>>33) % uint64(n))
}

// seldom is so once of so many times.
func (c *chance) seldom(times int) bool { return c.below(times) == 0 }

// maker makes a file whose modules are made of those that were made ahead of them. What it makes is mostly right; once of so many times (never, if that is 0) it is wrong somehow.
type maker struct {
	*chance
	modules []api.Module
	bad     int
}

// known is the names that stand in a scope so far, and how many it told; names of other depths differ.
type known struct {
	depth, told int
	constants   []string
	signals     []api.Signal
}

func (m *maker) wrong() bool { return m.bad > 0 && m.seldom(m.bad) }

// name is a new one of the scope.
func (k *known) name() string {
	k.told++
	return fmt.Sprintf("%c%d", 'a'+k.depth, k.told)
}

// within is a scope in this one.
func (k *known) within() *known {
	return &known{depth: k.depth + 1, constants: slices.Clone(k.constants), signals: slices.Clone(k.signals)}
}

func of(op, n int, l ...api.X) api.X { return api.X{Op: op, N: n, L: l} }

func number(v int) api.X { return api.X{Op: api.NumX, V: uint64(v)} }

func name(s string, l ...api.X) api.X {
	return api.X{Op: []int{api.NameX, api.IndexX, api.SliceX}[len(l)], Name: s, L: l}
}

// constant is a small constant expression.
func (m *maker) constant(k *known) api.X {
	switch {
	case m.wrong():
		return []api.X{name("zz"), of(api.BinX, api.SubO, number(0), number(1)), {Op: api.NumX, W: 4, V: 3}, number(1 << 31), of(api.UnX, api.NotO, number(1))}[m.below(5)]
	case len(k.constants) == 0 || m.seldom(2):
		return number(m.below(4))
	}
	x := name(k.constants[m.below(len(k.constants))])
	switch m.below(6) {
	case 0:
		return of(api.BinX, []int{api.AddO, api.MulO, api.EqO, api.LtO, api.OneO, api.ShlO}[m.below(6)], x, number(m.below(3)))
	case 1:
		return of(api.CondX, 0, x, number(m.below(4)), of(api.UnX, api.NoO, x))
	}
	return x
}

// width is mostly 4 to 9.
func (m *maker) width(k *known) api.X {
	switch {
	case m.wrong():
		return number([]int{0, 65, 1 << 20}[m.below(3)])
	case m.seldom(3):
		return of(api.BinX, api.AddO, number(4), m.constant(k))
	}
	return number(4 + m.below(6))
}

// target is bits of a signal of one of some kinds.
func (m *maker) target(k *known, kinds ...int) (api.X, bool) {
	if m.wrong() {
		kinds = []int{1, 2, 3, 4}
	}
	l := slices.DeleteFunc(slices.Clone(k.signals), func(s api.Signal) bool { return !slices.Contains(kinds, s.Kind) })
	if len(l) == 0 {
		return api.X{}, false
	}
	s := l[m.below(len(l))].Name
	if m.wrong() {
		s = "zz"
	}
	lo := m.below(3)
	switch {
	case m.wrong():
		return name(s, m.constant(k), m.constant(k)), true
	case m.wrong():
		return name(s, number(9)), true
	case m.seldom(2):
		return name(s), true
	case m.seldom(2):
		return name(s, number(lo)), true
	}
	return name(s, of(api.BinX, api.AddO, number(lo), number(m.below(2))), number(lo)), true
}

func (m *maker) xs(k *known, n, room int) []api.X {
	var l []api.X
	for range n {
		l = append(l, m.x(k, room))
	}
	return l
}

// x is an expression of a design.
func (m *maker) x(k *known, room int) api.X {
	if room <= 0 || m.seldom(4) {
		return m.leaf(k)
	}
	room--
	switch m.below(10) {
	case 0:
		return of(api.UnX, 1+m.below(6), m.xs(k, 1, room)...)
	case 1:
		return of(api.CondX, 0, m.xs(k, 3, room)...)
	case 2:
		return of(api.CatX, 0, m.xs(k, 1+m.below(3), room)...)
	case 3:
		return of(api.RepX, 0, of(api.BinX, api.AddO, number(1-m.below(8)/7), m.constant(k)), m.x(k, room))
	case 4:
		return of(api.ExtX, api.ZextO+m.below(3), m.width(k), m.x(k, room))
	case 5:
		if len(k.signals) > 0 {
			return name(k.signals[m.below(len(k.signals))].Name, m.x(k, room))
		}
	}
	return of(api.BinX, 11+m.below(16), m.xs(k, 2, room)...)
}

func (m *maker) leaf(k *known) api.X {
	switch m.below(6) {
	case 0:
		return api.X{Op: api.NumX, W: 60, V: uint64(m.below(1 << 31))}
	case 1:
		return number(m.below(1<<31) << m.below(32))
	case 2:
		return m.constant(k)
	}
	if x, ok := m.target(k, api.InK, api.OutK, api.WireK, api.RegK); ok {
		return x
	}
	return number(0)
}

// bounds are those of a loop of few passes.
func (m *maker) bounds(k *known) []api.X {
	from := m.below(3)
	switch {
	case m.wrong() && m.seldom(8):
		return []api.X{number(from), number(1<<31 - 1)}
	case m.seldom(3):
		return []api.X{m.constant(k), m.constant(k)}
	}
	return []api.X{number(from), number(from + m.below(4))}
}

func (m *maker) statements(k *known, clocked bool, room int) []api.S {
	var l []api.S
	for range m.below(4) {
		l = append(l, m.statement(k, clocked, room))
	}
	return l
}

func (m *maker) block(k *known, clocked bool, room int) api.S {
	return api.S{Op: api.BlockS, L: m.statements(k, clocked, room)}
}

func (m *maker) choice(k *known, clocked bool, room int) api.S {
	s := api.S{Op: api.IfS, X: m.xs(k, 1, 2), L: []api.S{m.block(k, clocked, room-1), m.block(k, clocked, room-1)}}
	if room > 0 && m.seldom(2) {
		s.L[1] = m.choice(k, clocked, room-1)
	}
	return s
}

func (m *maker) statement(k *known, clocked bool, room int) api.S {
	kinds := []int{api.WireK, api.OutK}
	if clocked {
		kinds = []int{api.RegK}
	}
	to, ok := m.target(k, kinds...)
	switch what := m.below(8); {
	case room > 0 && what == 0:
		return m.choice(k, clocked, room-1)
	case room > 0 && what == 1:
		s := api.S{Op: api.CaseS, X: m.xs(k, 1, 2)}
		for range m.below(3) {
			labels := []api.X{m.constant(k), {Op: api.NumX, W: 8, V: uint64(m.below(256))}, m.constant(k)}
			s.L = append(s.L, api.S{Op: api.ArmS, X: labels[m.below(3):], L: m.statements(k, clocked, room-1)})
		}
		s.L = append(s.L, api.S{Op: api.ArmS, L: m.statements(k, clocked, room-1)})
		return s
	case room > 0 && what == 2:
		s := api.S{Op: api.ForS, X: m.bounds(k)}
		in := k.within()
		s.Name = in.name()
		in.constants = append(in.constants, s.Name)
		s.L = m.statements(in, clocked, room-1)
		return s
	case room > 0 && what == 3:
		return m.block(k, clocked, room-1)
	case !ok:
		return api.S{Op: api.BlockS}
	}
	return api.S{Op: api.AssignS, X: []api.X{to, m.x(k, 3)}}
}

func (m *maker) items(k *known, room int) []api.Item {
	var l []api.Item
	for range m.below(6) {
		l = append(l, m.item(k, room))
	}
	return l
}

func (m *maker) item(k *known, room int) api.Item {
	i := api.Item{Op: []int{api.ConstI, api.WireI, api.RegI, api.AssignI, api.AssignI, api.CombI, api.TickI, api.InstI, api.InstI, api.IfI, api.ForI, api.CheckI}[m.below(12)]}
	to, ok := m.target(k, api.WireK, api.OutK)
	if room <= 0 && (i.Op == api.IfI || i.Op == api.ForI) || i.Op == api.AssignI && !ok || i.Op == api.InstI && len(m.modules) == 0 {
		i.Op = api.WireI
	}
	switch i.Op {
	case api.ConstI:
		i.X = []api.X{m.constant(k)}
		i.Name = k.name()
		k.constants = append(k.constants, i.Name)
	case api.WireI:
		i.X = []api.X{m.width(k)}
		i.Name = k.signal(api.WireK)
	case api.RegI:
		i.X = []api.X{m.width(k), m.constant(k)}
		i.Name = k.signal(api.RegK)
	case api.AssignI:
		i.X = []api.X{to, m.x(k, 3)}
	case api.CombI, api.TickI:
		i.S = m.statements(k, i.Op == api.TickI, 3)
	case api.CheckI:
		i.X = m.xs(k, 1, 3)
		i.Name = k.name()
	case api.InstI:
		m.instance(k, &i)
		i.Name = k.name()
	case api.IfI:
		m.sides(k, &i, room)
	case api.ForI:
		i.X = m.bounds(k)
		i.Name = k.name()
		in := k.within()
		i.Of = in.name()
		in.constants = append(in.constants, i.Of)
		i.L = m.items(in, room-1)
	}
	return i
}

func (k *known) signal(kind int) string {
	s := api.Signal{Name: k.name(), Kind: kind}
	k.signals = append(k.signals, s)
	return s.Name
}

// sides tell the same names; what stands behind them uses those of the side that is taken.
func (m *maker) sides(k *known, i *api.Item, room int) {
	so, not := *k, *k
	so.constants, so.signals = slices.Clip(so.constants), slices.Clip(so.signals)
	not.constants, not.signals = slices.Clip(not.constants), slices.Clip(not.signals)
	i.L, i.Else = m.items(&so, room-1), m.items(&not, room-1)
	told := max(so.told, not.told)
	switch m.below(5) {
	case 0:
		i.X = []api.X{m.constant(k)}
	case 1, 2:
		i.X = []api.X{number(1 + m.below(3))}
		*k = so
	default:
		i.X = []api.X{number(0)}
		*k = not
	}
	k.told = told
}

func (m *maker) instance(k *known, i *api.Item) {
	one := m.modules[m.below(len(m.modules))]
	i.Of = one.Name
	for _, p := range one.Params {
		if m.seldom(2) || m.wrong() {
			i.Params = append(i.Params, api.Bind{Name: p.Name, X: m.constant(k)})
		}
	}
	for _, p := range one.Ports {
		x := m.x(k, 2)
		if to, ok := m.target(k, api.WireK, api.OutK); ok && p.Out {
			x = to
		} else if p.Out && !m.wrong() {
			continue
		}
		if p.Out && m.seldom(4) || m.wrong() {
			continue
		}
		i.Binds = append(i.Binds, api.Bind{Name: p.Name, X: x})
	}
	for _, l := range []*[]api.Bind{&i.Params, &i.Binds} {
		for n := range *l {
			other := m.below(n + 1)
			(*l)[n], (*l)[other] = (*l)[other], (*l)[n]
		}
		if m.wrong() {
			*l = append(*l, api.Bind{Name: "zz", X: number(1)})
		} else if m.wrong() && len(*l) > 0 {
			*l = append(*l, (*l)[0])
		}
	}
}

func (m *maker) module(n int) api.Module {
	one := api.Module{Name: fmt.Sprint("m", n)}
	k := &known{}
	for range m.below(3) {
		one.Params = append(one.Params, api.Bind{X: m.constant(k), Name: k.name()})
		k.constants = append(k.constants, one.Params[len(one.Params)-1].Name)
	}
	for range m.below(4) {
		p := api.Port{W: m.width(k), Out: m.seldom(2)}
		p.Name = k.signal(map[bool]int{false: api.InK, true: api.OutK}[p.Out])
		one.Ports = append(one.Ports, p)
	}
	one.Items = append(m.items(k, 3), m.items(k, 3)...)
	return one
}

// file is one, with the name of the module that was made last, and with some of its parameters.
func (c *chance) file() (api.File, string, []api.Named) {
	m := &maker{chance: c, bad: []int{0, 0, 60, 200, 1000}[c.below(5)]}
	for n := range 1 + c.below(4) {
		m.modules = append(m.modules, m.module(n))
	}
	top := m.modules[len(m.modules)-1]
	var params []api.Named
	for _, p := range top.Params {
		if m.seldom(3) {
			params = append(params, api.Named{Name: p.Name, V: m.below(4)})
		}
		if m.wrong() {
			params = append(params, api.Named{Name: []string{p.Name, "zz"}[m.below(2)], V: []int{2, -1, 1 << 31}[m.below(3)]})
		}
	}
	f := api.File{Modules: slices.Clone(m.modules)}
	for i := range f.Modules {
		other := c.below(i + 1)
		f.Modules[i], f.Modules[other] = f.Modules[other], f.Modules[i]
	}
	return f, top.Name, params
}

// TestAgainstTheModel: files of chance are the designs, or the errors, that the chapter's sentences say.
func TestAgainstTheModel(t *testing.T) {
	luck := chance(8)
	found := map[api.Errno]int{}
	for range 12000 {
		f, top, params := luck.file()
		want, wantE := modelElab(f, top, params)
		d, e := elab.Elab(f, top, params)
		if e != wantE || fmt.Sprint(d) != fmt.Sprint(want) {
			t.Fatalf("%s %v of %s:\n got %s, error %d\nwant %s, error %d", top, params, brief(f), show(d), e, show(want), wantE)
		}
		if wrong := mayNotBe(d); wrong != "" {
			t.Fatalf("%s %v of %s: %s in %s", top, params, brief(f), wrong, show(d))
		}
		found[e]++
	}
	for _, e := range []api.Errno{api.ErrBound, api.ErrFree, api.ErrKonst, api.ErrOver, api.ErrNoName, api.ErrPort, api.ErrParam, api.ErrWide, api.ErrSlice, api.ErrRole} {
		if found[e] < 4 {
			t.Errorf("too few of error %d: %v", e, found)
		}
	}
	if found[api.OK] < 8000 {
		t.Errorf("too few designs: %v", found)
	}
}
