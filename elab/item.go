package elab

import (
	"strconv"

	"filigree/api"
)

// items lays out items in their scope. Each is counted as it is come to.
func (b *builder) items(s *scope, l []api.Item) {
	for k := range l {
		b.count(1)
		b.kinds[l[k].Op](s, &l[k])
	}
}

func (b *builder) itemKinds() map[int]func(s *scope, i *api.Item) {
	return map[int]func(s *scope, i *api.Item){
		api.ConstI: func(s *scope, i *api.Item) { s.constants[i.Name] = s.eval(i.X[0]) },
		api.WireI: func(s *scope, i *api.Item) {
			b.addSignal(s, api.Signal{Name: i.Name, Kind: api.WireK, W: s.width(i.X[0])})
		},
		api.RegI: b.register,
		api.AssignI: func(s *scope, i *api.Item) {
			b.drive(func() place { return b.target(s, i.X[0], false) }, func() api.E { return b.value(s, i.X[1]) })
		},
		api.CombI: func(s *scope, i *api.Item) { b.addProc(false, body{builder: b}.statements(s, i.S)) },
		api.TickI: func(s *scope, i *api.Item) { b.addProc(true, body{builder: b, clocked: true}.statements(s, i.S)) },
		api.InstI: b.instance,
		api.IfI: func(s *scope, i *api.Item) {
			if s.eval(i.X[0]) != 0 {
				b.items(s, i.L)
			} else {
				b.items(s, i.Else)
			}
		},
		api.ForI: b.loop,
		api.CheckI: func(s *scope, i *api.Item) {
			e := b.value(s, i.X[0])
			b.design.Checks = append(b.design.Checks, api.Check{Name: s.path.to(i.Name), E: e})
		},
	}
}

func (b *builder) register(s *scope, i *api.Item) {
	width := s.width(i.X[0])
	init := s.number(i.X[1]).V
	b.addSignal(s, api.Signal{Name: i.Name, Kind: api.RegK, W: width, Init: init})
}

func (b *builder) loop(s *scope, i *api.Item) {
	b.passes(s, i.X, func(v int) {
		within := newScope(s, s.path.within(i.Name+"["+strconv.Itoa(v)+"]."))
		within.constants[i.Of] = v
		b.items(within, i.L)
	})
}
