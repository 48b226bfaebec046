package names_test

import (
	"fmt"
	"slices"
	"strings"

	"filigree/api"
	"filigree/ast"
)

// telling is one place where a name is told: the scopes in which it stands, from the module's on, and the sides of the choices around it, each a choice's number and a side.
type telling struct {
	name   string
	scopes []int
	sides  map[int]int
}

// teller writes down all tellings of a module; scopes and choices have numbers.
type teller struct {
	all  []telling
	next int
}

func (l *teller) number() int {
	l.next++
	return l.next
}

func (l *teller) tell(name string, scopes []int, sides map[int]int) {
	l.all = append(l.all, telling{name, scopes, sides})
}

func (l *teller) within(scopes []int) []int {
	return append(slices.Clone(scopes), l.number())
}

func (l *teller) module(m api.Module) {
	for _, p := range m.Params {
		l.tell(p.Name, []int{0}, nil)
	}
	for _, p := range m.Ports {
		l.tell(p.Name, []int{0}, nil)
	}
	l.items(m.Items, []int{0}, nil)
}

func (l *teller) items(items []api.Item, scopes []int, sides map[int]int) {
	for _, i := range items {
		// An item that may be has a name just if it tells it.
		if i.Name != "" {
			l.tell(i.Name, scopes, sides)
		}
		l.statements(i.S, scopes, sides)
		switch i.Op {
		case api.ForI:
			within := l.within(scopes)
			l.tell(i.Of, within, sides)
			l.items(i.L, within, sides)
		case api.IfI:
			choice := l.number()
			for side, part := range [][]api.Item{i.L, i.Else} {
				l.items(part, scopes, with(sides, choice, side))
			}
		}
	}
}

func with(sides map[int]int, choice, side int) map[int]int {
	more := map[int]int{choice: side}
	for k, v := range sides {
		more[k] = v
	}
	return more
}

func (l *teller) statements(statements []api.S, scopes []int, sides map[int]int) {
	for _, s := range statements {
		within := scopes
		if s.Op == api.ForS {
			within = l.within(scopes)
			l.tell(s.Name, within, sides)
		}
		l.statements(s.L, within, sides)
	}
}

// clash tells whether one of two tellings may not be because of the other one.
func clash(a, b telling) bool {
	if a.name != b.name {
		return false
	}
	if len(a.scopes) > len(b.scopes) {
		a, b = b, a
	}
	if !slices.Equal(a.scopes, b.scopes[:len(a.scopes)]) {
		return false
	}
	return len(a.scopes) < len(b.scopes) || !apart(a.sides, b.sides)
}

// apart tells whether one choice has both on different sides.
func apart(a, b map[int]int) bool {
	for choice, side := range a {
		if other, ok := b[choice]; ok && other != side {
			return true
		}
	}
	return false
}

// modelTwice holds each telling against each other one.
func modelTwice(f api.File) bool {
	for k, m := range f.Modules {
		if slices.ContainsFunc(f.Modules[:k], func(n api.Module) bool { return n.Name == m.Name }) {
			return true
		}
		var l teller
		l.module(m)
		for i, a := range l.all {
			if slices.ContainsFunc(l.all[:i], func(b telling) bool { return clash(a, b) }) {
				return true
			}
		}
	}
	return false
}

// modelUses looks for instances in what is written of a module's items.
func modelUses(items []api.Item) []string {
	var l []string
	var look func(items []api.Item)
	look = func(items []api.Item) {
		for _, i := range items {
			if i.Op == api.InstI {
				l = append(l, i.Of)
			}
			look(slices.Concat(i.L, i.Else))
		}
	}
	look(items)
	var once []string
	for i, name := range l {
		if slices.Index(l, name) == i {
			once = append(once, name)
		}
	}
	return once
}

// madeOf is who is made of whom, in any number of steps.
func madeOf(f api.File) map[[2]string]bool {
	reach := map[[2]string]bool{}
	for _, m := range f.Modules {
		for _, use := range modelUses(m.Items) {
			reach[[2]string{m.Name, use}] = true
		}
	}
	for _, by := range f.Modules {
		for _, from := range f.Modules {
			for _, to := range f.Modules {
				if reach[[2]string{from.Name, by.Name}] && reach[[2]string{by.Name, to.Name}] {
					reach[[2]string{from.Name, to.Name}] = true
				}
			}
		}
	}
	return reach
}

func modelCheck(f api.File) api.Errno {
	switch {
	case ast.Check(f) != api.OK:
		return ast.Check(f)
	case modelTwice(f):
		return api.ErrTwice
	}
	var all []string
	for _, m := range f.Modules {
		all = append(all, m.Name)
	}
	for _, m := range f.Modules {
		for _, use := range modelUses(m.Items) {
			if !slices.Contains(all, use) {
				return api.ErrNoModule
			}
		}
	}
	reach := madeOf(f)
	for _, name := range all {
		if reach[[2]string{name, name}] {
			return api.ErrRing
		}
	}
	return api.OK
}

// modelOrder begins with the first module that is made of none that is not there yet, and goes on with the order of the others.
func modelOrder(left []api.Module) []string {
	for k, m := range left {
		others := slices.Concat(left[:k], left[k+1:])
		if !slices.ContainsFunc(left, func(n api.Module) bool { return slices.Contains(modelUses(m.Items), n.Name) }) {
			return append([]string{m.Name}, modelOrder(others)...)
		}
	}
	return nil
}

func modelBelow(f api.File, top string) []string {
	reach := madeOf(f)
	var l []string
	for _, name := range modelOrder(f.Modules) {
		if name == top || reach[[2]string{top, name}] {
			l = append(l, name)
		}
	}
	return l
}

// brief is a file's names alone.
func brief(f api.File) string {
	var b strings.Builder
	for _, m := range f.Modules {
		fmt.Fprint(&b, m.Name, "(")
		for _, p := range m.Params {
			fmt.Fprint(&b, "#", p.Name, " ")
		}
		for _, p := range m.Ports {
			fmt.Fprint(&b, p.Name, " ")
		}
		fmt.Fprint(&b, "){", briefItems(m.Items), "} ")
	}
	return b.String()
}

func briefItems(items []api.Item) string {
	var l []string
	for _, i := range items {
		l = append(l, fmt.Sprint(i.Op, " ", i.Name, " ", i.Of, briefStatements(i.S), " {", briefItems(i.L), "}{", briefItems(i.Else), "}"))
	}
	return strings.Join(l, "; ")
}

func briefStatements(statements []api.S) string {
	var l []string
	for _, s := range statements {
		l = append(l, fmt.Sprint(s.Op, " ", s.Name, "{", briefStatements(s.L), "}"))
	}
	return strings.Join(l, "; ")
}
