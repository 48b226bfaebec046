package ast

import (
	"iter"

	"filigree/api"
)

// walk goes through a tree, a node ahead of its parts: it is told how deep each node stands, and tells whether to go on.
type walk func(depth int) bool

// depths tells how deep the nodes of a tree stand, which itself is 1 deep, one by one.
func depths[N any](tree N, through func(w walk, n N, depth int) bool) iter.Seq[int] {
	return func(yield func(depth int) bool) { through(yield, tree, 1) }
}

// tooGreat stops at the first node that is one too many, or too deep: what is behind it may be endless.
func tooGreat(tree iter.Seq[int]) bool {
	size := 0
	for depth := range tree {
		size++
		if size > api.MaxNodes || depth > api.MaxDeep {
			return true
		}
	}
	return false
}

// each goes through all nodes of a list, which stand equally deep.
func each[N any](l []N, depth int, through func(n N, depth int) bool) bool {
	for _, n := range l {
		if !through(n, depth) {
			return false
		}
	}
	return true
}

// file is no node: its modules stand as deep as it is said to.
func (w walk) file(f api.File, depth int) bool {
	return each(f.Modules, depth, w.module)
}

func (w walk) module(m api.Module, depth int) bool {
	return w(depth) && each(m.Params, depth+1, w.bind) && each(m.Ports, depth+1, w.port) && each(m.Items, depth+1, w.item)
}

func (w walk) bind(b api.Bind, depth int) bool {
	return w(depth) && w.expression(b.X, depth+1)
}

func (w walk) port(p api.Port, depth int) bool {
	return w(depth) && w.expression(p.W, depth+1)
}

func (w walk) item(i api.Item, depth int) bool {
	return w(depth) && each(i.X, depth+1, w.expression) && each(i.S, depth+1, w.statement) &&
		each(i.L, depth+1, w.item) && each(i.Else, depth+1, w.item) &&
		each(i.Params, depth+1, w.bind) && each(i.Binds, depth+1, w.bind)
}

func (w walk) statement(s api.S, depth int) bool {
	return w(depth) && each(s.X, depth+1, w.expression) && each(s.L, depth+1, w.statement)
}

func (w walk) expression(x api.X, depth int) bool {
	return w(depth) && each(x.L, depth+1, w.expression)
}

// finder finds the names of expressions; seen holds those of names.
type finder struct {
	seen  map[string]bool
	names []string
}

func (f *finder) look(x api.X) {
	if hasName(x) && !f.seen[x.Name] {
		f.seen[x.Name] = true
		f.names = append(f.names, x.Name)
	}
	for _, part := range x.L {
		f.look(part)
	}
}
