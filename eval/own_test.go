package eval_test

import (
	"fmt"
	"slices"
	"testing"

	"filigree/api"
	"filigree/eval"
	"filigree/sized"
)

// alone wants that no node of some expressions is one of another expression, or stands twice in one, too.
func alone(t *testing.T, d api.Flat, l ...*api.E) {
	t.Helper()
	seen := map[*api.E]bool{}
	for _, e := range l {
		for _, node := range every(e) {
			if seen[node] {
				t.Fatalf("%s: lists share a part", show(d, *e))
			}
			seen[node] = true
		}
	}
}

// TestArgumentsStay: what is handed in is not changed, and does not stand in what is answered: it may be written into afterwards.
func TestArgumentsStay(t *testing.T) {
	c := chance(4)
	for range 2000 {
		m := c.maker()
		d, e, v := m.d, m.e(m.width(), 1+c.below(5)), m.values()
		before := fmt.Sprint(d, e, v)
		eval.Values(d, v)
		_, err := eval.Eval(d, v, e)
		folded, foldErr := eval.Fold(d, e)
		needed, needsErr := eval.Needs(d, e)
		if err != api.OK || foldErr != api.OK || needsErr != api.OK {
			t.Fatalf("%s: errors %d, %d, %d", show(d, e), err, foldErr, needsErr)
		}
		if after := fmt.Sprint(d, e, v); after != before {
			t.Fatalf("%s becomes %s", before, after)
		}
		again, _ := eval.Fold(d, e)
		third, _ := eval.Fold(d, folded)
		alone(t, d, &e, &folded, &again, &third)
		want := fmt.Sprint(folded, needed)
		for _, node := range every(&e) {
			*node = num(1, 1)
		}
		clear(d.Signals)
		clear(v)
		if got := fmt.Sprint(folded, needed); got != want {
			t.Fatalf("%s becomes %s", want, got)
		}
	}
}

// TestListsAreNew: no two lists of one answer share a part, even if those of what was handed in do.
func TestListsAreNew(t *testing.T) {
	d := base(t)
	e := bitsOf(3, 0, 0)
	for range 5 {
		e = of(api.BinE, api.BothO, 1, of(api.CondE, 0, 1, num(1, 1), e, e), e)
	}
	folded, err := eval.Fold(d, e)
	if err != api.OK {
		t.Fatal(err)
	}
	alone(t, d, &folded)
	first, _ := eval.Needs(d, bitsOf(0, 3, 0))
	second, _ := eval.Needs(d, bitsOf(0, 3, 0))
	first[0], first = 77, append(first, 78)
	if !slices.Equal(second, []int{0, 1, 2, 3}) {
		t.Errorf("%d, behind %d", second, first)
	}
}

// TestListsWithoutElements: those that are empty are as those that are nil.
func TestListsWithoutElements(t *testing.T) {
	d := base(t)
	empty := func(e api.E) api.E {
		e.L = []api.E{}
		return e
	}
	is(t, d, values(), of(api.BinE, api.AddO, 4, empty(bitsOf(0, 3, 0)), empty(num(4, 1))), 10)
	folds(t, d, of(api.BinE, api.AddO, 4, empty(num(4, 2)), empty(num(4, 1))), `3:4`)
	folds(t, d, at(0, empty(num(4, 1))), `a[1:1]:1`)
	needs(t, d, empty(bitsOf(0, 1, 1)), 1)
	d = api.Flat{Signals: []api.Signal{}, Procs: []api.Proc{}, Checks: []api.Check{}}
	is(t, d, []uint64{}, empty(num(4, 2)), 2)
	is(t, api.Flat{}, nil, num(4, 2), 2)
	folds(t, api.Flat{}, of(api.UnE, api.NotO, 4, num(4, 2)), `13:4`)
	needs(t, api.Flat{}, num(4, 2))
}

// TestAgain: the same is told whenever it is asked, whatever was asked ahead of it.
func TestAgain(t *testing.T) {
	c := chance(5)
	for range 300 {
		m, other := c.maker(), c.maker()
		e, v := m.e(m.width(), 5), m.values()
		value, _ := eval.Eval(m.d, v, e)
		folded, _ := eval.Fold(m.d, e)
		needed, _ := eval.Needs(m.d, e)
		for range 3 {
			one := other.e(other.width(), 5)
			eval.Eval(other.d, other.values(), one)
			eval.Fold(other.d, one)
			eval.Needs(other.d, one)
			is(t, m.d, v, e, value)
			needs(t, m.d, e, needed...)
			if again, err := eval.Fold(m.d, e); err != api.OK || !sized.SameE(again, folded) {
				t.Fatalf("%s: %s, and then %s", show(m.d, e), show(m.d, folded), show(m.d, again))
			}
		}
	}
}
