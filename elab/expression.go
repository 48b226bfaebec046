package elab

import (
	"slices"

	"filigree/api"
)

// draft is an expression that can be made: of how many nodes, and how. It is counted before it is made: what is repeated may be more than there is room for.
type draft struct {
	nodes int
	build func() api.E
}

// operations is the kinds of what becomes of operations, by their kinds in a tree.
var operations = [...]int{api.UnX: api.UnE, api.BinX: api.BinE, api.CondX: api.CondE, api.CatX: api.CatE}

// value makes an expression. Its nodes are counted together, behind all that is asked of it.
func (b *builder) value(s *scope, x api.X) api.E {
	d := b.draft(s, x)
	b.count(d.nodes)
	return d.build()
}

// counted is a node that is an expression by itself.
func (b *builder) counted(e api.E) api.E {
	b.count(1)
	return e
}

func (b *builder) draft(s *scope, x api.X) draft {
	switch x.Op {
	case api.NumX:
		return joined(api.E{Op: api.NumE, W: x.W, V: x.V})
	case api.NameX:
		if v, ok := s.constant(x.Name); ok {
			return joined(api.E{Op: api.NumE, V: uint64(v)})
		}
		return joined(b.place(s, x).read())
	case api.SliceX:
		return joined(b.place(s, x).read())
	case api.IndexX:
		signal := signalOf(s, x.Name)
		return joined(api.E{Op: api.IndexE, Sig: signal}, b.drafts(s, x.L)...)
	case api.RepX:
		times := s.width(x.L[0])
		return joined(api.E{Op: api.CatE}, slices.Repeat(b.drafts(s, x.L[1:]), times)...)
	case api.ExtX:
		width := s.width(x.L[0])
		return joined(api.E{Op: api.ExtE, N: x.N, W: width}, b.drafts(s, x.L[1:])...)
	}
	return joined(api.E{Op: operations[x.Op], N: x.N}, b.drafts(s, x.L)...)
}

func (b *builder) drafts(s *scope, l []api.X) []draft {
	var made []draft
	for _, x := range l {
		made = append(made, b.draft(s, x))
	}
	return made
}

// joined is a node and its parts; it has lists of its own however often it is made.
func joined(e api.E, parts ...draft) draft {
	nodes := 1
	for _, part := range parts {
		nodes += part.nodes
	}
	ensure(nodes <= api.MaxNodes, api.ErrBound)
	return draft{nodes: nodes, build: func() api.E {
		made := e
		made.L = slices.Grow(made.L, len(parts))
		for _, part := range parts {
			made.L = append(made.L, part.build())
		}
		return made
	}}
}
