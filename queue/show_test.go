package queue_test

import (
	"fmt"
	"slices"
	"testing"

	"filigree/api"
	"filigree/queue"
)

// ev is an event whose signal and value hang on its number, so that events that are mixed up are seen.
func ev(t, d, no int) api.Ev {
	return api.Ev{T: t, D: d, No: no, Sig: 100 + no%1000, V: ^uint64(no)}
}

// on is a queue with a time and a delta that are gone by, its next number, and events.
func on(now, delta, next int, l ...api.Ev) api.Queue {
	return api.Queue{List: l, Now: now, Delta: delta, Next: next}
}

// same tells whether two queues are.
func same(a, b api.Queue) bool {
	return slices.Equal(a.List, b.List) && a.Now == b.Now && a.Delta == b.Delta && a.Next == b.Next
}

// isZero tells whether nothing is told of a queue.
func isZero(q api.Queue) bool { return same(q, api.Queue{}) }

// checks wants what Check tells.
func checks(t *testing.T, what any, q api.Queue, want api.Errno) {
	t.Helper()
	if e := queue.Check(q); e != want {
		t.Errorf("%v: error %d of %v, want %d", what, e, brief{q}, want)
	}
}

// pushes wants what is made of a queue by an event more, and tells it.
func pushes(t *testing.T, what any, q api.Queue, e api.Ev, want api.Queue) api.Queue {
	t.Helper()
	got, fault := queue.Push(q, e.T, e.D, e.Sig, e.V)
	if fault != api.OK || !same(got, want) {
		t.Errorf("%v: %v of %v and %v, error %d, want %v", what, brief{got}, brief{q}, e, fault, brief{want})
	}
	return got
}

// pops wants which event comes first, and what is left.
func pops(t *testing.T, what any, q api.Queue, first api.Ev, left api.Queue) {
	t.Helper()
	got, e, fault := queue.Pop(q)
	if fault != api.OK || e != first || !same(got, left) {
		t.Errorf("%v: %v and %v of %v, error %d, want %v and %v", what, e, brief{got}, brief{q}, fault, first, brief{left})
	}
}

// takes wants which events are of the first one's time and delta, and what is left.
func takes(t *testing.T, what any, q api.Queue, first []api.Ev, left api.Queue) {
	t.Helper()
	got, l, fault := queue.Take(q)
	if fault != api.OK || !slices.Equal(l, first) || !same(got, left) {
		t.Errorf("%v: %v and %v of %v, error %d, want %v and %v", what, brief{l}, brief{got}, brief{q}, fault, brief{first}, brief{left})
	}
}

// refusedPush wants an error, and nothing else.
func refusedPush(t *testing.T, what any, q api.Queue, e api.Ev, want api.Errno) {
	t.Helper()
	if got, fault := queue.Push(q, e.T, e.D, e.Sig, e.V); fault != want || !isZero(got) {
		t.Errorf("%v: Push tells %v of %v and %v, error %d, want error %d", what, brief{got}, brief{q}, e, fault, want)
	}
}

// refusedPop wants an error of Pop and Take, and nothing else.
func refusedPop(t *testing.T, what any, q api.Queue, want api.Errno) {
	t.Helper()
	if got, e, fault := queue.Pop(q); fault != want || !isZero(got) || e != (api.Ev{}) {
		t.Errorf("%v: Pop tells %v and %v of %v, error %d, want error %d", what, e, brief{got}, brief{q}, fault, want)
	}
	if got, l, fault := queue.Take(q); fault != want || !isZero(got) || len(l) > 0 {
		t.Errorf("%v: Take tells %v and %v of %v, error %d, want error %d", what, brief{l}, brief{got}, brief{q}, fault, want)
	}
}

// refused wants that all calls tell an error of a queue, whatever is to be put in.
func refused(t *testing.T, what any, q api.Queue, want api.Errno) {
	t.Helper()
	checks(t, what, q, want)
	refusedPop(t, what, q, want)
	for _, e := range []api.Ev{{}, {T: max(q.Now, 0), D: max(q.Delta, 0), Sig: 3, V: 4}, {T: -1}, {D: -1}, {Sig: -1}} {
		refusedPush(t, what, q, e, want)
	}
}

// brief is shown as a text that is not too long, which is made only where it is shown.
type brief struct{ of any }

func (b brief) String() string {
	return fmt.Sprintf("%.2000s", fmt.Sprintf("%+v", b.of))
}
