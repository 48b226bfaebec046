package queue

import (
	"sort"

	"filigree/api"
)

// event is one of a queue's, held against others.
type event api.Ev

// ahead tells whether an event comes sooner than another one.
func (a event) ahead(b event) bool {
	switch {
	case a.T != b.T:
		return a.T < b.T
	case a.D != b.D:
		return a.D < b.D
	}
	return a.No < b.No
}

// together tells whether two events have the same time and delta.
func (a event) together(b event) bool { return a.T == b.T && a.D == b.D }

// leading counts the events of a list, from the first one on, of which a comparison with one of them, or with one that is to come in, is true; it is of none behind these.
func leading(list []api.Ev, one api.Ev, is func(a, b event) bool) int {
	return sort.Search(len(list), func(k int) bool { return !is(event(list[k]), event(one)) })
}
