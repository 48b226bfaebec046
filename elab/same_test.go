package elab_test

import (
	"fmt"
	"regexp"
	"slices"
	"strconv"
	"strings"
	"testing"

	"filigree/api"
	"filigree/ast"
	"filigree/elab"
	"filigree/konst"
	"filigree/names"
)

// change is what becomes of the expressions of items, and of the names that they tell, wherever they stand.
type change struct {
	x    func(x api.X) api.X
	name func(name string) string
}

func each[N any](l []N, become func(n N) N) []N {
	l = slices.Clone(l)
	for i, n := range l {
		l[i] = become(n)
	}
	return l
}

func (c change) bind(b api.Bind) api.Bind { return api.Bind{Name: b.Name, X: c.x(b.X)} }

func (c change) statement(s api.S) api.S {
	return api.S{Op: s.Op, Name: c.name(s.Name), X: each(s.X, c.x), L: each(s.L, c.statement)}
}

func (c change) item(i api.Item) api.Item {
	i.Name = c.name(i.Name)
	if i.Op == api.ForI {
		i.Of = c.name(i.Of)
	}
	i.X, i.S = each(i.X, c.x), each(i.S, c.statement)
	i.L, i.Else = each(i.L, c.item), each(i.Else, c.item)
	i.Params, i.Binds = each(i.Params, c.bind), each(i.Binds, c.bind)
	return i
}

// putIn puts a constant in.
func putIn(name string, v int) change {
	env := []api.Named{{Name: name, V: v}}
	return change{x: func(x api.X) api.X { return konst.Subst(x, env) }, name: func(name string) string { return name }}
}

// renamed puts something ahead of all names.
func renamed(ahead string) change {
	c := change{name: func(name string) string {
		if name == "" {
			return ""
		}
		return ahead + name
	}}
	c.x = func(x api.X) api.X {
		x.Name, x.L = c.name(x.Name), each(x.L, c.x)
		return x
	}
	return c
}

// plain is a number that is told without a width.
func plain(x api.X) (int, bool) {
	return int(x.V), x.Op == api.NumX && x.W == 0 && x.V < 1<<31
}

// few is the bounds of a loop of few passes: one that no item comes to may have very many.
func few(x []api.X) (int, int, bool) {
	from, ok1 := plain(x[0])
	to, ok2 := plain(x[1])
	return from, to, ok1 && ok2 && to-from < 9
}

// lists changes all lists of items, those within first; a list of a choice's side is no scope of its own.
func lists(l []api.Item, become func(l []api.Item, scope bool) []api.Item) []api.Item {
	return each(l, func(i api.Item) api.Item {
		within := func(l []api.Item) []api.Item {
			return become(lists(l, become), i.Op == api.ForI)
		}
		if i.Op == api.ForI || i.Op == api.IfI {
			i.L = within(i.L)
		}
		if i.Op == api.IfI {
			i.Else = within(i.Else)
		}
		return i
	})
}

func changed(f api.File, become func(l []api.Item, scope bool) []api.Item) api.File {
	return api.File{Modules: each(f.Modules, func(m api.Module) api.Module {
		m.Items = become(lists(m.Items, become), true)
		return m
	})}
}

// same holds designs of chance against those of a file that says the same otherwise, whose names become what they were.
func same(t *testing.T, otherwise func(f api.File) api.File, was func(name string) string) {
	t.Helper()
	luck, differ := chance(9), 0
	for range 2500 {
		f, top, params := luck.file()
		want, e := elab.Elab(f, top, params)
		if e != api.OK {
			continue
		}
		g := otherwise(f)
		d, e := elab.Elab(g, top, params)
		for i := range d.Signals {
			d.Signals[i].Name = was(d.Signals[i].Name)
		}
		for i := range d.Checks {
			d.Checks[i].Name = was(d.Checks[i].Name)
		}
		if e == api.ErrBound {
			continue
		}
		if fmt.Sprint(d) != fmt.Sprint(want) {
			t.Fatalf("%s %v of %s\n is %s\nand of %s\n is %s, error %d", top, params, brief(f), show(want), brief(g), show(d), e)
		}
		if fmt.Sprint(f) != fmt.Sprint(g) {
			differ++
		}
	}
	if differ < 300 {
		t.Errorf("only %d files say it otherwise", differ)
	}
}

func itself(name string) string { return name }

// TestLoopsAreTheirPasses: a loop is as many loops of one pass each.
func TestLoopsAreTheirPasses(t *testing.T) {
	pass := regexp.MustCompile(`__(\d+)\[\d+\]`)
	same(t, func(f api.File) api.File {
		return changed(f, func(l []api.Item, _ bool) []api.Item {
			var all []api.Item
			for _, i := range l {
				all = append(all, passesOf(i)...)
			}
			return all
		})
	}, func(name string) string { return pass.ReplaceAllString(name, "[$1]") })
}

func passesOf(i api.Item) []api.Item {
	if i.Op != api.ForI {
		return []api.Item{i}
	}
	from, to, ok := few(i.X)
	if !ok {
		return []api.Item{i}
	}
	var l []api.Item
	for v := from; v < to; v++ {
		one := i
		one.Name, one.X = i.Name+"__"+strconv.Itoa(v), []api.X{number(v), number(v + 1)}
		l = append(l, one)
	}
	return l
}

// TestLoopsOfStatementsAreBlocks: of the statements of each pass, with the number put in.
func TestLoopsOfStatementsAreBlocks(t *testing.T) {
	same(t, func(f api.File) api.File {
		return changed(f, func(l []api.Item, _ bool) []api.Item {
			return each(l, func(i api.Item) api.Item {
				i.S = each(i.S, blockOf)
				return i
			})
		})
	}, itself)
}

func blockOf(s api.S) api.S {
	s.L = each(s.L, blockOf)
	if s.Op != api.ForS {
		return s
	}
	from, to, ok := few(s.X)
	if !ok {
		return s
	}
	block := api.S{Op: api.BlockS}
	for v := from; v < to; v++ {
		block.L = append(block.L, each(s.L, putIn(s.Name, v).statement)...)
	}
	return block
}

// TestChoicesAreTheirSides: the items of one side, as if they stood there.
func TestChoicesAreTheirSides(t *testing.T) {
	same(t, func(f api.File) api.File { return changed(f, sidesTaken) }, itself)
}

func sidesTaken(l []api.Item, _ bool) []api.Item {
	var all []api.Item
	for _, i := range l {
		if i.Op != api.IfI {
			all = append(all, i)
		} else if v, ok := plain(i.X[0]); !ok {
			all = append(all, i)
		} else if v != 0 {
			all = append(all, i.L...)
		} else {
			all = append(all, i.Else...)
		}
	}
	return all
}

// TestConstantsAreTheirValues: with a constant put in behind it, it can be left out.
func TestConstantsAreTheirValues(t *testing.T) {
	same(t, func(f api.File) api.File {
		return changed(changed(f, sidesTaken), constantsPutIn)
	}, itself)
}

func constantsPutIn(l []api.Item, scope bool) []api.Item {
	var all []api.Item
	l = slices.Clone(l)
	for k, i := range l {
		if i.Op == api.ConstI && scope {
			if v, ok := plain(i.X[0]); ok {
				copy(l[k+1:], each(l[k+1:], putIn(i.Name, v).item))
				continue
			}
		}
		all = append(all, i)
	}
	return all
}

// TestModulesToldTwice: it is the same which of two modules that say the same an instance is of.
func TestModulesToldTwice(t *testing.T) {
	same(t, func(f api.File) api.File {
		n := 0
		g := changed(f, func(l []api.Item, _ bool) []api.Item {
			return each(l, func(i api.Item) api.Item {
				if n++; i.Op == api.InstI && n%2 == 0 {
					i.Of += "_again"
				}
				return i
			})
		})
		return api.File{Modules: slices.Concat(g.Modules, each(g.Modules, func(m api.Module) api.Module {
			m.Name += "_again"
			return m
		}))}
	}, itself)
}

// TestParametersAsTheyAre: what a parameter is by itself may be told, too.
func TestParametersAsTheyAre(t *testing.T) {
	same(t, func(f api.File) api.File {
		return changed(f, func(l []api.Item, _ bool) []api.Item {
			return each(l, func(i api.Item) api.Item {
				m, _ := names.Find(f, i.Of)
				for _, p := range m.Params {
					told := slices.ContainsFunc(i.Params, func(b api.Bind) bool { return b.Name == p.Name })
					if _, ok := plain(p.X); ok && !told && i.Op == api.InstI {
						i.Params = append(slices.Clone(i.Params), p)
					}
				}
				slices.Reverse(i.Params)
				slices.Reverse(i.Binds)
				return i
			})
		})
	}, itself)
}

// TestInstancesAreTheirItems: an instance is constants, wires, assignments, and the module's items, in a scope of its own.
func TestInstancesAreTheirItems(t *testing.T) {
	same(t, func(f api.File) api.File {
		return changed(f, func(l []api.Item, _ bool) []api.Item {
			return each(l, func(i api.Item) api.Item {
				if m, ok := names.Find(f, i.Of); ok && i.Op == api.InstI && fits(i, m) {
					return laidIn(i, m)
				}
				return i
			})
		})
	}, func(name string) string {
		return strings.NewReplacer("k__", "", "__[0]", "").Replace(name)
	})
}

// fits tells whether an instance's ports are bound as they may be: one that no item comes to may be any.
func fits(i api.Item, m api.Module) bool {
	return !slices.ContainsFunc(m.Ports, func(p api.Port) bool {
		k := slices.IndexFunc(i.Binds, func(b api.Bind) bool { return b.Name == p.Name })
		if k < 0 {
			return !p.Out
		}
		drive := api.S{Op: api.AssignS, X: []api.X{i.Binds[k].X, number(0)}}
		return p.Out && ast.CheckS(drive) != api.OK
	})
}

// laidIn is a loop of one pass, in which the module's own names cannot be those around it.
func laidIn(i api.Item, m api.Module) api.Item {
	own := renamed("k__")
	in := api.Item{Op: api.ForI, Name: i.Name + "__", Of: "pass__" + m.Name, X: []api.X{number(0), number(1)}}
	assign := func(to, value api.X) { in.L = append(in.L, api.Item{Op: api.AssignI, X: []api.X{to, value}}) }
	bound := map[string]api.X{}
	for _, b := range i.Binds {
		bound[b.Name] = b.X
	}
	for _, p := range m.Params {
		x := own.x(p.X)
		for _, b := range i.Params {
			if b.Name == p.Name {
				x = b.X
			}
		}
		in.L = append(in.L, api.Item{Op: api.ConstI, Name: own.name(p.Name), X: []api.X{x}})
	}
	for _, p := range m.Ports {
		in.L = append(in.L, api.Item{Op: api.WireI, Name: own.name(p.Name), X: []api.X{own.x(p.W)}})
	}
	for _, p := range m.Ports {
		if !p.Out {
			assign(name(own.name(p.Name)), bound[p.Name])
		}
	}
	in.L = append(in.L, each(m.Items, own.item)...)
	for _, p := range m.Ports {
		if to, ok := bound[p.Name]; ok && p.Out {
			assign(to, name(own.name(p.Name)))
		}
	}
	return in
}
