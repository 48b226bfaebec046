package ast

import (
	"slices"

	"filigree/api"
)

func sameModule(m, n api.Module) bool {
	return m.Name == n.Name && slices.EqualFunc(m.Params, n.Params, sameBind) && slices.EqualFunc(m.Ports, n.Ports, samePort) &&
		slices.EqualFunc(m.Items, n.Items, sameItem)
}

func sameBind(b, c api.Bind) bool {
	return b.Name == c.Name && SameX(b.X, c.X)
}

func samePort(p, q api.Port) bool {
	return p.Name == q.Name && p.Out == q.Out && SameX(p.W, q.W)
}

func sameItem(i, j api.Item) bool {
	return i.Op == j.Op && i.Name == j.Name && i.Of == j.Of &&
		slices.EqualFunc(i.X, j.X, SameX) && slices.EqualFunc(i.S, j.S, SameS) &&
		slices.EqualFunc(i.L, j.L, sameItem) && slices.EqualFunc(i.Else, j.Else, sameItem) &&
		slices.EqualFunc(i.Params, j.Params, sameBind) && slices.EqualFunc(i.Binds, j.Binds, sameBind)
}
