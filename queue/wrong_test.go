package queue_test

import (
	"math"
	"slices"
	"testing"

	"filigree/api"
)

// sound is a queue in which all can be spoilt.
func sound() api.Queue {
	return on(2, 1, 7, ev(2, 1, 4), ev(2, 1, 6), ev(2, 3, 0), ev(4, 0, 3), ev(4, 5, 2))
}

// TestMayNotBe: what is no queue; one fault is enough, in whichever event.
func TestMayNotBe(t *testing.T) {
	checks(t, "the sound one", sound(), api.OK)
	for what, spoil := range map[string]func(q *api.Queue){
		"Now below 0":                         func(q *api.Queue) { q.Now = -1 },
		"the least Now":                       func(q *api.Queue) { q.Now = math.MinInt },
		"Delta below 0":                       func(q *api.Queue) { q.Delta = -1 },
		"the least Delta":                     func(q *api.Queue) { q.Delta = math.MinInt },
		"Next below 0":                        func(q *api.Queue) { q.Next = -1 },
		"the least Next":                      func(q *api.Queue) { q.Next = math.MinInt },
		"no Next":                             func(q *api.Queue) { q.Next = 0 },
		"Next that is a number":               func(q *api.Queue) { q.Next = 6 },
		"a time that is gone by":              func(q *api.Queue) { q.Now = 3 },
		"all that are gone by":                func(q *api.Queue) { q.Now = 5 },
		"a delta that is gone by":             func(q *api.Queue) { q.Delta = 2 },
		"the greatest Now":                    func(q *api.Queue) { q.Now = math.MaxInt },
		"the greatest Delta":                  func(q *api.Queue) { q.Delta = math.MaxInt },
		"a time below 0":                      func(q *api.Queue) { q.List[0].T = -1 },
		"a time below Now":                    func(q *api.Queue) { q.List[0].T = 1 },
		"a delta below Delta":                 func(q *api.Queue) { q.List[0].D = 0 },
		"a number that is Next":               func(q *api.Queue) { q.List[2].No = 7 },
		"a number above Next":                 func(q *api.Queue) { q.List[2].No = 8 },
		"the greatest number":                 func(q *api.Queue) { q.List[2].No = math.MaxInt },
		"a number twice, of a delta":          func(q *api.Queue) { q.List[1].No = 4 },
		"numbers that fall":                   func(q *api.Queue) { q.List[1].No = 3 },
		"an event twice":                      func(q *api.Queue) { q.List[2] = q.List[1] },
		"deltas that fall":                    func(q *api.Queue) { q.List[1].D = 4 },
		"deltas that fall, and numbers rise":  func(q *api.Queue) { q.List[3].D, q.List[4].No = 6, 6 },
		"a delta of another event's":          func(q *api.Queue) { q.List[4].D = 0 },
		"times that fall":                     func(q *api.Queue) { q.List[2].T = 5 },
		"the first one behind":                func(q *api.Queue) { q.List[0].T = 9 },
		"the last one ahead":                  func(q *api.Queue) { q.List[4].T = 3 },
		"from the last one back":              func(q *api.Queue) { slices.Reverse(q.List) },
		"two that are not beside each other":  func(q *api.Queue) { q.List[0], q.List[4] = q.List[4], q.List[0] },
		"two that are beside each other":      func(q *api.Queue) { q.List[2], q.List[3] = q.List[3], q.List[2] },
		"the last two":                        func(q *api.Queue) { q.List[3], q.List[4] = q.List[4], q.List[3] },
		"more than there may be, too":         func(q *api.Queue) { q.List = append(q.List, make([]api.Ev, api.MaxAnds)...) },
		"a number of another time above Next": func(q *api.Queue) { q.List[4].No = 7 },
	} {
		q := sound()
		spoil(&q)
		refused(t, what, q, api.ErrArg)
	}
	for k := range sound().List {
		for _, n := range []int{-1, -7, math.MinInt, math.MinInt + 1} {
			for field := range 4 {
				q := sound()
				*[]*int{&q.List[k].T, &q.List[k].D, &q.List[k].No, &q.List[k].Sig}[field] = n
				refused(t, []int{k, n, field}, q, api.ErrArg)
			}
		}
	}
	for _, q := range []api.Queue{on(-1, 0, 0), on(0, -1, 0), on(0, 0, -1), on(math.MinInt, math.MinInt, math.MinInt), on(0, 0, 0, ev(0, 0, 0)), on(0, 0, 1, ev(0, 0, 1)), on(3, 0, 1, ev(2, 9, 0)), on(3, 3, 1, ev(3, 2, 0)), on(0, 0, 1, api.Ev{Sig: -1})} {
		refused(t, "a small one", q, api.ErrArg)
	}
}

// TestNothingToTake: an empty queue that may be has no first event.
func TestNothingToTake(t *testing.T) {
	for _, q := range []api.Queue{{}, {List: []api.Ev{}}, on(3, 4, 5), on(math.MaxInt, math.MaxInt, math.MaxInt)} {
		checks(t, "an empty one", q, api.OK)
		refusedPop(t, "an empty one", q, api.ErrEmpty)
	}
}

// TestNotPushed: what can't be put in, and in which order that is told.
func TestNotPushed(t *testing.T) {
	q := sound()
	for _, n := range []int{-1, -2, math.MinInt} {
		refusedPush(t, "a delta below 0", q, api.Ev{T: 3, D: n}, api.ErrArg)
		refusedPush(t, "a signal below 0", q, api.Ev{T: 3, Sig: n}, api.ErrArg)
		refusedPush(t, "a delta below 0 of Now", q, api.Ev{T: 2, D: n}, api.ErrArg)
		refusedPush(t, "a delta below 0 that is gone by", q, api.Ev{T: 1, D: n}, api.ErrArg)
		refusedPush(t, "a signal below 0 that is gone by", q, api.Ev{T: 1, D: 1, Sig: n}, api.ErrArg)
		refusedPush(t, "a time below 0", q, api.Ev{T: n, D: 9}, api.ErrPast)
		refusedPush(t, "a time below 0, of the zero queue", api.Queue{}, api.Ev{T: n}, api.ErrPast)
		refusedPush(t, "all below 0", q, api.Ev{T: n, D: n, Sig: n}, api.ErrArg)
	}
	for _, e := range []api.Ev{{T: 0}, {T: 1}, {T: 1, D: 1}, {T: 1, D: 2}, {T: 1, D: math.MaxInt}, {T: 2}} {
		refusedPush(t, "gone by", q, e, api.ErrPast)
		refusedPush(t, "gone by, of none", on(2, 1, 0), e, api.ErrPast)
	}
	refusedPush(t, "far gone by", on(math.MaxInt, math.MaxInt, 0), api.Ev{T: math.MaxInt, D: math.MaxInt - 1}, api.ErrPast)
	for _, next := range []int{1 << 62, 1<<62 + 1, math.MaxInt} {
		full := on(2, 1, next, sound().List...)
		checks(t, "no numbers left", full, api.OK)
		refusedPush(t, "no numbers left", full, ev(9, 0, 0), api.ErrArg)
		refusedPush(t, "no numbers left, and gone by", full, ev(1, 0, 0), api.ErrArg)
		refusedPush(t, "no numbers left, of none", on(0, 0, next), api.Ev{}, api.ErrArg)
		pops(t, "no numbers left", full, full.List[0], on(2, 1, next, full.List[1:]...))
		takes(t, "no numbers left", full, full.List[:2], on(2, 1, next, full.List[2:]...))
	}
	q.List[4].Sig = -1
	refusedPush(t, "into what may not be", q, ev(9, 0, 0), api.ErrArg)
	refusedPush(t, "into what may not be, and gone by", q, ev(1, 0, 0), api.ErrArg)
}
