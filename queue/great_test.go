package queue_test

import (
	"slices"
	"testing"

	"filigree/api"
)

// many is a queue of so many events, four a delta, and four deltas a time.
func many(n int) api.Queue {
	q := on(0, 0, n)
	for k := range n {
		q.List = append(q.List, ev(k/16, k/4%4, k))
	}
	return q
}

// TestMany: as many events as there may be, and one less, and one more.
func TestMany(t *testing.T) {
	less, full, more := many(api.MaxAnds-1), many(api.MaxAnds), many(api.MaxAnds+1)
	checks(t, "one less", less, api.OK)
	checks(t, "full", full, api.OK)
	refused(t, "one more", more, api.ErrBound)
	pushes(t, "the last one that there may be", less, ev(5000, 0, api.MaxAnds-1), on(0, 0, api.MaxAnds, append(slices.Clone(less.List), ev(5000, 0, api.MaxAnds-1))...))
	pops(t, "full", full, full.List[0], on(0, 0, api.MaxAnds, full.List[1:]...))
	takes(t, "full", full, full.List[:4], on(0, 0, api.MaxAnds, full.List[4:]...))
	for _, e := range []api.Ev{{}, {T: 5000}} {
		refusedPush(t, "full", full, e, api.ErrBound)
	}
}

// TestManyErrors: which error of many comes first.
func TestManyErrors(t *testing.T) {
	full, more := many(api.MaxAnds), many(api.MaxAnds+1)
	full.Now, full.List = 1, full.List[16:]
	full.List = append(full.List, many(api.MaxAnds + 16).List[api.MaxAnds:]...)
	full.Next += 16
	checks(t, "full", full, api.OK)
	refusedPush(t, "full, and gone by", full, api.Ev{}, api.ErrPast)
	refusedPush(t, "full, and below 0", full, api.Ev{T: 5000, D: -1}, api.ErrArg)
	full.Next = 1 << 62
	refusedPush(t, "full, and no numbers left", full, api.Ev{T: 5000}, api.ErrArg)
	more.Next = 1 << 62
	refused(t, "one more, and no numbers left", more, api.ErrBound)
	more.Now = 1
	refused(t, "one more, and gone by", more, api.ErrArg)
	more.Now, more.Delta = 0, -1
	refused(t, "one more, and Delta below 0", more, api.ErrArg)
	more.Delta = 0
	last := len(more.List) - 1
	more.List[last].Sig = -1
	refused(t, "one more, which may not be", more, api.ErrArg)
	more.List[last].Sig, more.List[last].No = 0, last-1
	more.List[last].T, more.List[last].D = more.List[last-1].T, more.List[last-1].D
	refused(t, "one more, which is not behind the others", more, api.ErrArg)
}

// TestManyAtOnce: all of one delta.
func TestManyAtOnce(t *testing.T) {
	q := on(3, 4, api.MaxAnds)
	for k := range api.MaxAnds {
		q.List = append(q.List, ev(3, 4, k))
	}
	takes(t, "all", q, q.List, on(3, 4, api.MaxAnds))
	less := on(3, 4, api.MaxAnds, q.List[:api.MaxAnds-1]...)
	pushes(t, "one more", less, ev(3, 4, api.MaxAnds), on(3, 4, api.MaxAnds+1, append(slices.Clone(less.List), ev(3, 4, api.MaxAnds))...))
	takes(t, "all but one", less, less.List, on(3, 4, api.MaxAnds))
}

// TestManyPlaces: an event finds its place wherever that is among many.
func TestManyPlaces(t *testing.T) {
	q := many(2000)
	for k := 0; k <= 2000; k += 4 {
		e := ev(0, 0, 2000)
		at := k
		if k > 0 {
			e.T, e.D = q.List[k-1].T, q.List[k-1].D
		} else {
			at = 4
		}
		pushes(t, k, q, e, on(0, 0, 2001, slices.Insert(slices.Clone(q.List), at, e)...))
	}
}

// TestManyThroughIt: more events go through a queue than it may have at a time.
func TestManyThroughIt(t *testing.T) {
	q := api.Queue{}
	const there = 8
	for k := range api.MaxAnds + 100 {
		e := ev(k/16, k%16/4, k)
		if q = pushes(t, k, q, e, on(q.Now, q.Delta, k+1, append(slices.Clone(q.List), e)...)); t.Failed() {
			t.FailNow()
		}
		if k < there {
			continue
		}
		first := q.List[0]
		left := on(first.T, first.D, k+1, q.List[1:]...)
		pops(t, k, q, first, left)
		q = left
		if first.No != k-there {
			t.Fatalf("%v comes %d-th", first, k-there)
		}
	}
}
