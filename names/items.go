package names

import (
	"iter"

	"filigree/api"
)

// walk goes through items: it is told each one, and tells whether to go on.
type walk func(i *api.Item) bool

// whole tells items, and ahead of the next one those that stand in it, whatever it is.
func whole(l []api.Item) iter.Seq[*api.Item] {
	return func(yield func(i *api.Item) bool) { walk(yield).into(l, always) }
}

// ofScope tells the items that stand in one scope: of those in others items only choices have some.
func ofScope(l []api.Item) iter.Seq[*api.Item] {
	return func(yield func(i *api.Item) bool) { walk(yield).into(l, isChoice) }
}

// into goes through items, and into those that are gone into: all are told by one function, however deep they stand.
func (w walk) into(l []api.Item, gone func(i *api.Item) bool) bool {
	for k := range l {
		i := &l[k]
		if !w(i) || gone(i) && !(w.into(i.L, gone) && w.into(i.Else, gone)) {
			return false
		}
	}
	return true
}

func always(*api.Item) bool { return true }

func isChoice(i *api.Item) bool { return i.Op == api.IfI }
