package queue_test

import (
	"slices"

	"filigree/api"
)

// model is a queue, of which all is told as the chapter's sentences say it, however long that takes.
type model struct{ api.Queue }

// aheadOf is the chapter's word AHEAD.
func aheadOf(a, b api.Ev) bool {
	return a.T < b.T || a.T == b.T && a.D < b.D || a.T == b.T && a.D == b.D && a.No < b.No
}

func (m model) goneBy(t, d int) bool { return t < m.Now || t == m.Now && d < m.Delta }

func (m model) check() api.Errno {
	if m.Now < 0 || m.Delta < 0 || m.Next < 0 {
		return api.ErrArg
	}
	for k, e := range m.List {
		if e.T < 0 || e.D < 0 || e.Sig < 0 || e.No < 0 || e.No >= m.Next || m.goneBy(e.T, e.D) {
			return api.ErrArg
		}
		for _, behind := range m.List[k+1:] {
			if !aheadOf(e, behind) {
				return api.ErrArg
			}
		}
	}
	if len(m.List) > api.MaxAnds {
		return api.ErrBound
	}
	return api.OK
}

func (m model) push(t, d, sig int, v uint64) (api.Queue, api.Errno) {
	switch e := m.check(); {
	case e != api.OK:
		return api.Queue{}, e
	case d < 0 || sig < 0 || m.Next >= 1<<62:
		return api.Queue{}, api.ErrArg
	case m.goneBy(t, d):
		return api.Queue{}, api.ErrPast
	case len(m.List) == api.MaxAnds:
		return api.Queue{}, api.ErrBound
	}
	one := api.Ev{T: t, D: d, No: m.Next, Sig: sig, V: v}
	var ahead, others []api.Ev
	for _, e := range m.List {
		if aheadOf(e, one) {
			ahead = append(ahead, e)
		} else {
			others = append(others, e)
		}
	}
	return api.Queue{List: slices.Concat(ahead, []api.Ev{one}, others), Now: m.Now, Delta: m.Delta, Next: m.Next + 1}, api.OK
}

// without is the queue without some events, of the time and the delta that one has.
func (m model) without(one api.Ev, gone func(e api.Ev) bool) api.Queue {
	return api.Queue{List: slices.DeleteFunc(slices.Clone(m.List), gone), Now: one.T, Delta: one.D, Next: m.Next}
}

func (m model) pop() (api.Queue, api.Ev, api.Errno) {
	switch e := m.check(); {
	case e != api.OK:
		return api.Queue{}, api.Ev{}, e
	case len(m.List) == 0:
		return api.Queue{}, api.Ev{}, api.ErrEmpty
	}
	first := m.List[0]
	return m.without(first, func(e api.Ev) bool { return !aheadOf(first, e) }), first, api.OK
}

func (m model) take() (api.Queue, []api.Ev, api.Errno) {
	_, first, e := m.pop()
	if e != api.OK {
		return api.Queue{}, nil, e
	}
	with := func(e api.Ev) bool { return e.T == first.T && e.D == first.D }
	var l []api.Ev
	for _, e := range m.List {
		if with(e) {
			l = append(l, e)
		}
	}
	return m.without(first, with), l, api.OK
}
