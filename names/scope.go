package names

import (
	"maps"

	"filigree/api"
)

// scope is names that are told, each once; it stands in the one around it. A side of a choice is one, too, till both sides are told.
type scope struct {
	around *scope
	names  map[string]bool
}

// twice tells whether two modules are of one name, or a scope tells one that it may not.
func twice(f api.File) (so bool) {
	defer func() {
		switch thrown := recover().(type) {
		case nil:
		case api.Errno:
			so = true
		default:
			panic(thrown)
		}
	}()
	modules := inside(nil)
	for _, m := range f.Modules {
		modules.tell(m.Name)
		// What modules tell stands in no scope of a file: it may be a module's name.
		inside(nil).module(m)
	}
	return false
}

func inside(around *scope) *scope {
	return &scope{around: around, names: map[string]bool{}}
}

// tell gives up, if the name is told in this scope, or in one around it.
func (s *scope) tell(name string) {
	for at := s; at != nil; at = at.around {
		if at.names[name] {
			panic(api.ErrTwice)
		}
	}
	s.names[name] = true
}

func (s *scope) module(m api.Module) {
	tellHead(m, s.tell)
	s.items(m.Items)
}

// tellHead tells the names of what stands ahead of a module's items.
func tellHead(m api.Module, tell func(name string)) {
	for _, p := range m.Params {
		tell(p.Name)
	}
	for _, p := range m.Ports {
		tell(p.Name)
	}
}

// items goes into the scopes within only when all names of this one are told: one that is told last counts for them, too.
func (s *scope) items(l []api.Item) {
	s.tellItems(l)
	for i := range ofScope(l) {
		switch i.Op {
		case api.ForI:
			s.loop(i)
		case api.CombI, api.TickI:
			s.statements(i.S)
		}
	}
}

func (s *scope) tellItems(l []api.Item) {
	for k := range l {
		if i := &l[k]; isChoice(i) {
			s.tellChoice(i)
		} else {
			tellItem(i, s.tell)
		}
	}
}

// tellItem tells the name of an item, if it is one of its scope.
func tellItem(i *api.Item, tell func(name string)) {
	switch i.Op {
	case api.ConstI, api.WireI, api.RegI, api.InstI, api.ForI, api.CheckI:
		tell(i.Name)
	}
}

// tellChoice has each side told as if there were no other one.
func (s *scope) tellChoice(i *api.Item) {
	so, not := inside(s), inside(s)
	so.tellItems(i.L)
	not.tellItems(i.Else)
	s.takeIn(so)
	s.takeIn(not)
}

// takeIn puts the fewer names to the more, so that choices that stand deep in others cost no more.
func (s *scope) takeIn(side *scope) {
	if len(side.names) > len(s.names) {
		s.names, side.names = side.names, s.names
	}
	maps.Copy(s.names, side.names)
}

func (s *scope) loop(i *api.Item) {
	within := inside(s)
	within.tell(i.Of)
	within.items(i.L)
}

// statements looks for loops, each of which is a scope.
func (s *scope) statements(l []api.S) {
	for _, one := range l {
		within := s
		if one.Op == api.ForS {
			within = inside(s)
			within.tell(one.Name)
		}
		within.statements(one.L)
	}
}
