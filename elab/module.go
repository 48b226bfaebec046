package elab

import "filigree/api"

// module is one of a file's, with the names of its parameters and ports.
type module struct {
	*api.Module
	params, ports map[string]bool
}

func newModule(m *api.Module) *module {
	made := &module{Module: m, params: map[string]bool{}, ports: map[string]bool{}}
	for _, p := range m.Params {
		made.params[p.Name] = true
	}
	for _, p := range m.Ports {
		made.ports[p.Name] = true
	}
	return made
}

// put gives a name of those that there are a value, once.
func put[V any](values map[string]V, name string, there map[string]bool, e api.Errno, value func() V) {
	_, twice := values[name]
	ensure(there[name] && !twice, e)
	values[name] = value()
}

// top lays out the module that the design is of.
func (b *builder) top(m *module, params []api.Named) {
	told := map[string]int{}
	for _, p := range params {
		put(told, p.Name, m.params, api.ErrParam, func() int {
			ensure(0 <= p.V && p.V <= api.MaxConst, api.ErrOver)
			return p.V
		})
	}
	s := newScope(nil, nil)
	b.head(s, m, told, func(p api.Port) int {
		if p.Out {
			return api.OutK
		}
		return api.InK
	})
	b.items(s, m.Items)
}

// head lays out a module's parameters and ports.
func (b *builder) head(s *scope, m *module, told map[string]int, kind func(p api.Port) int) {
	for _, p := range m.Params {
		v, ok := told[p.Name]
		if !ok {
			v = s.eval(p.X)
		}
		s.constants[p.Name] = v
	}
	for _, p := range m.Ports {
		b.addSignal(s, api.Signal{Name: p.Name, W: s.width(p.W), Kind: kind(p)})
	}
}

// instance lays out a module within another one: its ports are wires, which processes join to what they are bound to.
func (b *builder) instance(s *scope, i *api.Item) {
	m := b.modules[i.Of]
	told := map[string]int{}
	for _, p := range i.Params {
		put(told, p.Name, m.params, api.ErrParam, func() int { return s.eval(p.X) })
	}
	bound := boundPorts(m, i.Binds)
	within := newScope(nil, s.path.within(i.Name+"."))
	b.head(within, m, told, func(api.Port) int { return api.WireK })
	for _, p := range m.Ports {
		if !p.Out {
			port := b.whole(signalOf(within, p.Name))
			b.drive(func() place { return port }, func() api.E { return b.value(s, bound[p.Name]) })
		}
	}
	b.items(within, m.Items)
	for _, p := range m.Ports {
		if x, ok := bound[p.Name]; ok && p.Out {
			port := b.whole(signalOf(within, p.Name))
			b.drive(func() place { return b.target(s, x, false) }, func() api.E { return b.counted(port.read()) })
		}
	}
}

// boundPorts is the expressions that an instance gives its ports.
func boundPorts(m *module, binds []api.Bind) map[string]api.X {
	bound := map[string]api.X{}
	for _, one := range binds {
		put(bound, one.Name, m.ports, api.ErrPort, func() api.X { return one.X })
	}
	for _, p := range m.Ports {
		_, ok := bound[p.Name]
		ensure(ok || p.Out, api.ErrPort)
	}
	return bound
}
