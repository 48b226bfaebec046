package queue_test

import (
	"fmt"
	"slices"
	"testing"

	"filigree/api"
	"filigree/madeup"
	"filigree/queue"
)

// room is a list with room behind it, in which something stands.
func room(l []api.Ev) []api.Ev {
	n := len(l)
	l = append(slices.Clone(l), ev(7, 7, 7), ev(8, 8, 8), ev(9, 9, 9))
	return l[:n]
}

// told is all that is told of a queue.
func told(q api.Queue, e api.Ev) []any {
	pushed, pushFault := queue.Push(q, e.T, e.D, e.Sig, e.V)
	popped, first, popFault := queue.Pop(q)
	taken, l, takeFault := queue.Take(q)
	return []any{queue.Check(q), queue.Empty(q), pushed, pushFault, popped, first, popFault, taken, l, takeFault}
}

// wipe writes zeros into a list, and into the room behind it.
func wipe(l []api.Ev) { clear(l[:cap(l)]) }

// wipeAll writes into all lists that were told.
func wipeAll(all []any) {
	for _, one := range all {
		switch one := one.(type) {
		case api.Queue:
			wipe(one.List)
		case []api.Ev:
			wipe(one)
		}
	}
}

// TestArgumentsStay: what is handed in is not changed, nor what stands behind it, and what is told does not hang on what is written into it afterwards.
func TestArgumentsStay(t *testing.T) {
	c := madeup.Chance(6)
	for range 2000 {
		q := made(&c)
		q.List = room(q.List)
		e := api.Ev{T: number(&c), D: number(&c), Sig: c.Below(9), V: c.Bits(64)}
		before := fmt.Sprint(q, q.List[:len(q.List)+3])
		all := told(q, e)
		if after := fmt.Sprint(q, q.List[:len(q.List)+3]); after != before {
			t.Fatalf("%s becomes %s", before, after)
		}
		want := fmt.Sprint(all)
		wipe(q.List)
		if got := fmt.Sprint(all); got != want {
			t.Fatalf("%s becomes %s", want, got)
		}
	}
}

// TestAgain: the same is told whenever it is asked, whatever was asked ahead of it, and whatever was written into what was told.
func TestAgain(t *testing.T) {
	c := madeup.Chance(7)
	for range 500 {
		q, other := made(&c), made(&c)
		e := api.Ev{T: number(&c), D: number(&c), Sig: c.Below(9), V: c.Bits(64)}
		first := told(q, e)
		want := fmt.Sprint(first)
		for range 3 {
			wipeAll(told(other, e))
			again := told(q, e)
			if got := fmt.Sprint(again); got != want {
				t.Fatalf("%s, and then %s", want, got)
			}
			wipeAll(again)
			if got := fmt.Sprint(first); got != want {
				t.Fatalf("%s becomes %s", want, got)
			}
		}
	}
}

// TestListsAreTheirOwn: what is written into, or behind, one of the lists that Take tells changes not the other one.
func TestListsAreTheirOwn(t *testing.T) {
	l := []api.Ev{ev(1, 1, 0), ev(1, 1, 1), ev(1, 2, 2), ev(1, 3, 3)}
	for _, q := range []api.Queue{on(1, 1, 4, l...), on(1, 1, 4, room(l)...)} {
		left, gone, _ := queue.Take(q)
		_ = append(gone, ev(0, 0, 0), ev(0, 0, 0), ev(0, 0, 0))
		wipe(gone)
		if !slices.Equal(left.List, l[2:]) {
			t.Errorf("%v, want %v", left.List, l[2:])
		}
		left, gone, _ = queue.Take(q)
		wipe(left.List)
		if !slices.Equal(gone, l[:2]) {
			t.Errorf("%v, want %v", gone, l[:2])
		}
		left, _, _ = queue.Pop(q)
		wipe(left.List)
		if !slices.Equal(q.List, l) {
			t.Errorf("%v, want %v", q.List, l)
		}
	}
}

// TestTwoWays: from one queue on, two ways can be gone, and neither is seen on the other one.
func TestTwoWays(t *testing.T) {
	var begin api.Queue
	for k := range 9 {
		begin = pushes(t, k, begin, ev(k, 0, k), on(0, 0, k+1, append(slices.Clone(begin.List), ev(k, 0, k))...))
	}
	first := pushes(t, "one way", begin, ev(9, 1, 9), on(0, 0, 10, append(slices.Clone(begin.List), ev(9, 1, 9))...))
	pushes(t, "another way", begin, ev(9, 2, 9), on(0, 0, 10, append(slices.Clone(begin.List), ev(9, 2, 9))...))
	if last := first.List[9]; last != ev(9, 1, 9) {
		t.Errorf("%v on the one way", last)
	}
}

// TestValuesMakeNoDifference: nor do signals, to when an event comes.
func TestValuesMakeNoDifference(t *testing.T) {
	c := madeup.Chance(8)
	for range 500 {
		q := made(&c)
		other := q
		other.List = slices.Clone(q.List)
		for k := range other.List {
			other.List[k].Sig, other.List[k].V = c.Below(5), c.Bits(64)
		}
		_, l, e := queue.Take(q)
		_, likewise, f := queue.Take(other)
		if e != f || !slices.EqualFunc(l, likewise, func(a, b api.Ev) bool { return order(a, b) == 0 }) {
			t.Fatalf("%v, and %v", l, likewise)
		}
	}
}
