package queue_test

import (
	"math"
	"slices"
	"testing"

	"filigree/api"
	"filigree/queue"
)

// TestExample holds the chapter's example.
func TestExample(t *testing.T) {
	var q api.Queue
	for _, when := range [][2]int{{2, 0}, {1, 1}, {1, 0}} {
		var e api.Errno
		if q, e = queue.Push(q, when[0], when[1], 0, 0); e != api.OK {
			t.Fatalf("error %d", e)
		}
	}
	for _, when := range [][2]int{{1, 0}, {1, 1}, {2, 0}} {
		var first api.Ev
		var e api.Errno
		if q, first, e = queue.Pop(q); e != api.OK || first.T != when[0] || first.D != when[1] {
			t.Fatalf("%v, error %d, want %d", first, e, when)
		}
	}
	if !queue.Empty(q) {
		t.Errorf("%v is left", q)
	}
}

func TestMayBe(t *testing.T) {
	for what, q := range map[string]api.Queue{
		"the zero queue":             {},
		"no events":                  on(5, 7, 9),
		"an empty list":              {List: []api.Ev{}},
		"one event":                  on(0, 0, 1, ev(0, 0, 0)),
		"all zeros":                  {List: []api.Ev{{}}, Next: 1},
		"a time later":               on(3, 7, 1, ev(4, 0, 0)),
		"a delta later":              on(3, 7, 1, ev(3, 8, 0)),
		"not gone by":                on(3, 7, 1, ev(3, 7, 0)),
		"times":                      on(0, 0, 3, ev(0, 9, 2), ev(1, 8, 1), ev(2, 7, 0)),
		"deltas":                     on(0, 0, 3, ev(4, 0, 2), ev(4, 1, 1), ev(4, 2, 0)),
		"numbers":                    on(4, 1, 3, ev(4, 1, 0), ev(4, 1, 1), ev(4, 1, 2)),
		"numbers that are missing":   on(0, 0, 100, ev(4, 1, 0), ev(4, 1, 50), ev(4, 1, 99)),
		"a number twice":             on(0, 0, 1, ev(4, 1, 0), ev(4, 2, 0), ev(5, 1, 0)),
		"a signal and a value twice": on(0, 0, 2, api.Ev{T: 1, Sig: 2, V: 3}, api.Ev{T: 1, No: 1, Sig: 2, V: 3}),
		"the greatest ones":          on(math.MaxInt, math.MaxInt, math.MaxInt, api.Ev{T: math.MaxInt, D: math.MaxInt, No: math.MaxInt - 1, Sig: math.MaxInt, V: math.MaxUint64}),
		"far from each other":        on(0, 0, math.MaxInt, ev(0, 0, 0), ev(0, math.MaxInt, 0), ev(math.MaxInt, 0, 0), ev(math.MaxInt, 0, math.MaxInt-1)),
	} {
		checks(t, what, q, api.OK)
	}
}

func TestEmpty(t *testing.T) {
	for what, c := range map[string]struct {
		q    api.Queue
		want bool
	}{
		"the zero queue":             {api.Queue{}, true},
		"an empty list":              {api.Queue{List: []api.Ev{}}, true},
		"gone by":                    {on(3, 4, 5), true},
		"one event":                  {on(0, 0, 1, ev(0, 0, 0)), false},
		"two events":                 {on(0, 0, 2, ev(0, 0, 0), ev(0, 0, 1)), false},
		"none, of what may not be":   {on(-1, -1, -1), true},
		"one, of what may not be":    {on(-1, -1, -1, ev(-1, 0, 0)), false},
		"many":                       {api.Queue{List: make([]api.Ev, api.MaxAnds)}, false},
		"one more than there may be": {api.Queue{List: make([]api.Ev, api.MaxAnds+1)}, false},
	} {
		if got := queue.Empty(c.q); got != c.want {
			t.Errorf("%s: %t, want %t", what, got, c.want)
		}
	}
}

func TestPush(t *testing.T) {
	pushes(t, "the first one", api.Queue{}, ev(0, 0, 0), on(0, 0, 1, ev(0, 0, 0)))
	pushes(t, "all zeros", api.Queue{}, api.Ev{}, on(0, 0, 1, api.Ev{}))
	pushes(t, "into an empty list", api.Queue{List: []api.Ev{}, Now: 3, Delta: 4, Next: 7}, ev(3, 4, 7), on(3, 4, 8, ev(3, 4, 7)))
	pushes(t, "a delta that is low, of a time later", on(3, 4, 7), ev(4, 0, 7), on(3, 4, 8, ev(4, 0, 7)))
	pushes(t, "a delta later", on(3, 4, 7), ev(3, 5, 7), on(3, 4, 8, ev(3, 5, 7)))
	pushes(t, "the greatest ones", on(math.MaxInt, math.MaxInt, 0), api.Ev{T: math.MaxInt, D: math.MaxInt, Sig: math.MaxInt, V: math.MaxUint64}, on(math.MaxInt, math.MaxInt, 1, api.Ev{T: math.MaxInt, D: math.MaxInt, Sig: math.MaxInt, V: math.MaxUint64}))
	pushes(t, "the last number", on(0, 0, 1<<62-1), ev(1, 2, 1<<62-1), on(0, 0, 1<<62, ev(1, 2, 1<<62-1)))
}

// TestPushPlaces: where an event stands among those of other times and deltas, and of its own.
func TestPushPlaces(t *testing.T) {
	l := []api.Ev{ev(2, 3, 1), ev(2, 3, 4), ev(2, 5, 0), ev(4, 1, 2), ev(4, 1, 3)}
	for _, c := range []struct{ t, d, place int }{
		{1, 2, 0}, {2, 0, 0}, {2, 2, 0}, {1, math.MaxInt, 0},
		{2, 3, 2}, {2, 4, 2},
		{2, 5, 3}, {2, 6, 3}, {2, math.MaxInt, 3}, {3, 0, 3}, {3, 3, 3}, {4, 0, 3},
		{4, 1, 5}, {4, 2, 5}, {5, 0, 5}, {math.MaxInt, 0, 5}, {math.MaxInt, math.MaxInt, 5},
	} {
		e := ev(c.t, c.d, 9)
		pushes(t, c, on(1, 2, 9, l...), e, on(1, 2, 10, slices.Insert(slices.Clone(l), c.place, e)...))
	}
}

func TestPop(t *testing.T) {
	pops(t, "the only one", on(0, 0, 1, ev(2, 3, 0)), ev(2, 3, 0), on(2, 3, 1))
	pops(t, "all zeros", on(0, 0, 1, api.Ev{}), api.Ev{}, on(0, 0, 1))
	pops(t, "a time", on(0, 0, 5, ev(2, 3, 4), ev(4, 1, 0)), ev(2, 3, 4), on(2, 3, 5, ev(4, 1, 0)))
	pops(t, "a delta", on(2, 1, 5, ev(2, 3, 4), ev(2, 4, 0)), ev(2, 3, 4), on(2, 3, 5, ev(2, 4, 0)))
	pops(t, "a number", on(2, 3, 5, ev(2, 3, 0), ev(2, 3, 1), ev(2, 3, 4)), ev(2, 3, 0), on(2, 3, 5, ev(2, 3, 1), ev(2, 3, 4)))
	pops(t, "a delta that is low, of a time later", on(2, 9, 5, ev(3, 0, 4)), ev(3, 0, 4), on(3, 0, 5))
}

func TestTake(t *testing.T) {
	takes(t, "the only one", on(0, 0, 1, ev(2, 3, 0)), []api.Ev{ev(2, 3, 0)}, on(2, 3, 1))
	takes(t, "all", on(0, 0, 9, ev(2, 3, 0), ev(2, 3, 5), ev(2, 3, 6)), []api.Ev{ev(2, 3, 0), ev(2, 3, 5), ev(2, 3, 6)}, on(2, 3, 9))
	takes(t, "one, of a time", on(2, 2, 9, ev(2, 3, 7), ev(3, 3, 5)), []api.Ev{ev(2, 3, 7)}, on(2, 3, 9, ev(3, 3, 5)))
	takes(t, "one, of a delta", on(2, 2, 9, ev(2, 3, 7), ev(2, 4, 5), ev(2, 4, 6)), []api.Ev{ev(2, 3, 7)}, on(2, 3, 9, ev(2, 4, 5), ev(2, 4, 6)))
	takes(t, "two", on(2, 3, 9, ev(2, 3, 7), ev(2, 3, 8), ev(2, 4, 5), ev(3, 3, 1)), []api.Ev{ev(2, 3, 7), ev(2, 3, 8)}, on(2, 3, 9, ev(2, 4, 5), ev(3, 3, 1)))
	takes(t, "those of the same delta of another time stay", on(0, 0, 9, ev(2, 3, 7), ev(5, 3, 0), ev(5, 3, 8)), []api.Ev{ev(2, 3, 7)}, on(2, 3, 9, ev(5, 3, 0), ev(5, 3, 8)))
	takes(t, "the greatest ones", on(0, 0, 2, ev(math.MaxInt, math.MaxInt, 0), ev(math.MaxInt, math.MaxInt, 1)), []api.Ev{ev(math.MaxInt, math.MaxInt, 0), ev(math.MaxInt, math.MaxInt, 1)}, on(math.MaxInt, math.MaxInt, 2))
}

// TestTakeEach: however many are of the first delta, and however many behind it.
func TestTakeEach(t *testing.T) {
	for first := 1; first < 20; first++ {
		for behind := range 20 {
			var l []api.Ev
			for k := range first {
				l = append(l, ev(1, 1, k))
			}
			for k := range behind {
				l = append(l, ev(1, 2, k))
			}
			takes(t, []int{first, behind}, on(1, 0, 20, l...), l[:first], on(1, 1, 20, l[first:]...))
			pops(t, []int{first, behind}, on(1, 0, 20, l...), l[0], on(1, 1, 20, l[1:]...))
		}
	}
}
