package names

import (
	"slices"

	"filigree/api"
)

// copied is a new list, with new lists in each part.
func copied[N any](l []N, part func(n N) N) []N {
	l = slices.Clone(l)
	for k, n := range l {
		l[k] = part(n)
	}
	return l
}

func copiedModule(m api.Module) api.Module {
	m.Params = copied(m.Params, copiedBind)
	m.Ports = copied(m.Ports, copiedPort)
	m.Items = copied(m.Items, copiedItem)
	return m
}

func copiedItem(i api.Item) api.Item {
	i.X = copied(i.X, copiedX)
	i.S = copied(i.S, copiedS)
	i.L = copied(i.L, copiedItem)
	i.Else = copied(i.Else, copiedItem)
	i.Params = copied(i.Params, copiedBind)
	i.Binds = copied(i.Binds, copiedBind)
	return i
}

func copiedBind(b api.Bind) api.Bind {
	b.X = copiedX(b.X)
	return b
}

func copiedPort(p api.Port) api.Port {
	p.W = copiedX(p.W)
	return p
}

func copiedS(s api.S) api.S {
	s.X = copied(s.X, copiedX)
	s.L = copied(s.L, copiedS)
	return s
}

func copiedX(x api.X) api.X {
	x.L = copied(x.L, copiedX)
	return x
}
