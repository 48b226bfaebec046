package names_test

import (
	"fmt"
	"slices"
	"testing"

	"filigree/api"
	"filigree/ast"
	"filigree/names"
)

// chance is numbers that look like chance, and are the same in each run; it makes files that may be, whose modules tell names out of so many, and are made of others.
type chance uint64

func (c *chance) below(n int) int {
	*c = *c*6364136223846793005 + 1442695040888963407
	return int(uint64(*c>>33) % uint64(n))
}

// seldom is so once of so many times.
func (c *chance) seldom(times int) bool { return c.below(times) == 0 }

// maker makes one file: its modules' names, and how many names they tell at most.
type maker struct {
	*chance
	modules []string
	names   int
	at      int
	ring    bool
}

func (m *maker) name() string { return fmt.Sprint("n", m.below(m.names)) }

// of is mostly the name of a module behind this one.
func (m *maker) of() string {
	switch {
	case m.seldom(12):
		return "nowhere"
	case m.ring || m.at+1 == len(m.modules):
		return m.modules[m.below(len(m.modules))]
	}
	return m.modules[m.at+1+m.below(len(m.modules)-m.at-1)]
}

func some[N any](m *maker, most int, one func(room int) N, room int) []N {
	var l []N
	for range m.below(most + 1) {
		l = append(l, one(room))
	}
	return l
}

func number(v int) api.X { return api.X{Op: api.NumX, V: uint64(v)} }

func (m *maker) bind(int) api.Bind { return api.Bind{Name: m.name(), X: number(1)} }

func (m *maker) port(int) api.Port {
	return api.Port{Name: m.name(), Out: m.seldom(2), W: number(1)}
}

func (m *maker) item(room int) api.Item {
	i := api.Item{Op: 1 + m.below(10), Name: m.name()}
	if room <= 0 || i.Op == api.InstI && m.at+1 == len(m.modules) && !m.seldom(20) {
		i.Op = api.WireI
	}
	room--
	switch i.Op {
	case api.ConstI, api.WireI, api.CheckI:
		i.X = []api.X{number(1)}
	case api.RegI:
		i.X = []api.X{number(1), number(0)}
	case api.AssignI:
		i.Name, i.X = "", []api.X{{Op: api.NameX, Name: m.name()}, number(1)}
	case api.CombI, api.TickI:
		i.Name, i.S = "", some(m, 3, m.statement, room)
	case api.InstI:
		i.Of, i.Params, i.Binds = m.of(), some(m, 2, m.bind, room), some(m, 2, m.bind, room)
	case api.IfI:
		i.Name, i.X, i.L, i.Else = "", []api.X{number(1)}, some(m, 3, m.item, room), some(m, 3, m.item, room)
	case api.ForI:
		i.Of, i.X, i.L = m.name(), []api.X{number(0), number(1)}, some(m, 3, m.item, room)
	}
	return i
}

func (m *maker) block(room int) api.S {
	return api.S{Op: api.BlockS, L: some(m, 2, m.statement, room-1)}
}

func (m *maker) statement(room int) api.S {
	if room <= 0 {
		return api.S{Op: api.BlockS}
	}
	switch m.below(5) {
	case 0:
		return api.S{Op: api.IfS, X: []api.X{number(1)}, L: []api.S{m.block(room - 1), m.block(room - 1)}}
	case 1:
		arm := api.S{Op: api.ArmS, X: []api.X{number(1)}, L: some(m, 2, m.statement, room-2)}
		return api.S{Op: api.CaseS, X: []api.X{number(1)}, L: []api.S{arm, {Op: api.ArmS, L: some(m, 2, m.statement, room-2)}}}
	case 2:
		return m.block(room)
	case 3:
		return api.S{Op: api.AssignS, X: []api.X{{Op: api.NameX, Name: m.name()}, number(1)}}
	}
	return api.S{Op: api.ForS, Name: m.name(), X: []api.X{number(0), number(1)}, L: some(m, 2, m.statement, room-1)}
}

// file is one whose modules tell many names seldom twice, and few names often.
func (c *chance) file() api.File {
	m := &maker{chance: c, names: []int{4, 30, 300, 5000, 5000, 5000}[c.below(6)], ring: c.seldom(4)}
	for i := range c.below(6) {
		m.modules = append(m.modules, fmt.Sprint("m", i))
	}
	var f api.File
	for i, name := range m.modules {
		m.at = i
		if c.seldom(30) {
			name = m.modules[c.below(len(m.modules))]
		}
		f.Modules = append(f.Modules, api.Module{Name: name, Params: some(m, 2, m.bind, 0), Ports: some(m, 2, m.port, 0), Items: some(m, 5, m.item, 4)})
	}
	for i := range f.Modules {
		k := c.below(i + 1)
		f.Modules[i], f.Modules[k] = f.Modules[k], f.Modules[i]
	}
	return f
}

// spoilt is a file of which something was changed that may then not be.
func (c *chance) spoilt(f api.File) api.File {
	f.Modules = slices.Clone(f.Modules)
	if len(f.Modules) == 0 {
		return api.File{Modules: []api.Module{{}}}
	}
	m := &f.Modules[c.below(len(f.Modules))]
	switch c.below(4) {
	case 0:
		m.Name = "tick"
	case 1:
		m.Params = append(slices.Clone(m.Params), api.Bind{Name: "p"})
	case 2:
		m.Items = append(slices.Clone(m.Items), api.Item{Op: c.below(12), Name: "x"})
	case 3:
		m.Items = append(slices.Clone(m.Items), m.Items...)
	}
	return f
}

// answers holds all calls against the model, and tells what Check is.
func answers(t *testing.T, f api.File) api.Errno {
	t.Helper()
	want := modelCheck(f)
	if e := names.Check(f); e != want {
		t.Fatalf("Check %s: error %d, want %d", brief(f), e, want)
	}
	var order []string
	if want == api.OK {
		order = modelOrder(f.Modules)
	}
	if l, e := names.Order(f); e != want || !slices.Equal(l, order) {
		t.Fatalf("Order %s: %v, error %d, want %v, error %d", brief(f), l, e, order, want)
	}
	for i, m := range f.Modules {
		finds(t, f, i)
		if l := names.Uses(m); !slices.Equal(l, modelUses(m.Items)) {
			t.Fatalf("Uses %s: %v", brief(api.File{Modules: []api.Module{m}}), l)
		}
		if want == api.OK {
			order = modelBelow(f, m.Name)
		}
		if l, e := names.Below(f, m.Name); e != want || !slices.Equal(l, order) {
			t.Fatalf("Below %s of %s: %v, error %d, want %v, error %d", m.Name, brief(f), l, e, order, want)
		}
	}
	return want
}

func finds(t *testing.T, f api.File, i int) {
	t.Helper()
	name := f.Modules[i].Name
	first := slices.IndexFunc(f.Modules, func(m api.Module) bool { return m.Name == name })
	if m, ok := names.Find(f, name); !ok || !sameModule(m, f.Modules[first]) {
		t.Fatalf("Find %s of %s: %v", name, brief(f), m)
	}
}

// TestAgainstTheModel: files of chance, and such that were spoilt, are what the chapter's sentences say.
func TestAgainstTheModel(t *testing.T) {
	luck := chance(7)
	found := map[api.Errno]int{}
	for range 20000 {
		f := luck.file()
		found[answers(t, f)]++
		found[answers(t, luck.spoilt(f))]++
	}
	for _, e := range []api.Errno{api.OK, api.ErrArg, api.ErrTwice, api.ErrNoModule, api.ErrRing} {
		if found[e] < 300 {
			t.Errorf("too few of error %d: %v", e, found)
		}
	}
}

// taken is items with one side of each choice alone.
func (c *chance) taken(items []api.Item) []api.Item {
	var l []api.Item
	for _, i := range items {
		i.L, i.Else = c.taken(i.L), c.taken(i.Else)
		switch {
		case i.Op != api.IfI:
			l = append(l, i)
		case c.seldom(2):
			l = append(l, i.L...)
		default:
			l = append(l, i.Else...)
		}
	}
	return l
}

// TestToldOnce: whichever sides are taken, a name is told once wherever it can be seen.
func TestToldOnce(t *testing.T) {
	luck := chance(8)
	most := 0
	for range 20000 {
		f := luck.file()
		if names.Check(f) != api.OK {
			continue
		}
		for _, m := range f.Modules {
			m.Items = luck.taken(m.Items)
			var l teller
			l.module(m)
			most = max(most, len(l.all))
			for k, a := range l.all {
				for _, b := range l.all[:k] {
					// What has the scopes of one around it sees what is told there.
					if a.name == b.name && (within(a, b) || within(b, a)) {
						t.Fatalf("%s is told twice in %s", a.name, brief(api.File{Modules: []api.Module{m}}))
					}
				}
			}
		}
	}
	if most < 20 {
		t.Errorf("no module tells more than %d names", most)
	}
}

// within tells whether one telling stands in the scope of another one, or in one within that.
func within(a, b telling) bool {
	return len(a.scopes) >= len(b.scopes) && slices.Equal(a.scopes[:len(b.scopes)], b.scopes)
}

// TestBehindTheirParts: in an order each module stands once, behind all that it is made of; what is below one is an order, too, of what it needs alone.
func TestBehindTheirParts(t *testing.T) {
	luck := chance(9)
	for range 20000 {
		f := luck.file()
		order, e := names.Order(f)
		if e != api.OK {
			continue
		}
		if len(order) != len(f.Modules) {
			t.Fatalf("%v of %s", order, brief(f))
		}
		for _, m := range f.Modules {
			for _, use := range names.Uses(m) {
				if slices.Index(order, use) >= slices.Index(order, m.Name) {
					t.Fatalf("%s stands behind %s in %v", use, m.Name, order)
				}
			}
			below(t, f, m.Name)
		}
	}
}

// below checks that the modules below one are a file that is right, and that it is no more without any of them.
func below(t *testing.T, f api.File, top string) {
	t.Helper()
	l, _ := names.Below(f, top)
	part := api.File{Modules: slices.DeleteFunc(slices.Clone(f.Modules), func(m api.Module) bool { return !slices.Contains(l, m.Name) })}
	if order, e := names.Order(part); e != api.OK || !slices.Equal(order, l) || l[len(l)-1] != top {
		t.Fatalf("below %s of %s: %v, by itself %v, error %d", top, brief(f), l, order, e)
	}
	for i, m := range part.Modules {
		less := api.File{Modules: slices.Concat(part.Modules[:i], part.Modules[i+1:])}
		if e := names.Check(less); e != api.ErrNoModule && m.Name != top {
			t.Fatalf("%s is not needed below %s of %s", m.Name, top, brief(f))
		}
	}
	if ast.Check(part) != api.OK {
		t.Fatal("modules were changed")
	}
}
