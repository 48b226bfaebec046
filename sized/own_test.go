package sized_test

import (
	"fmt"
	"reflect"
	"testing"

	"filigree/api"
	"filigree/sized"
)

// write puts something else into all fields of what stands in lists, and leaves these as long as they are.
func write[N any](n *N) {
	for _, field := range placesOf(n) {
		if field.Kind() != reflect.Slice {
			other(field)
		}
	}
}

// TestArgumentsStay: what is handed in is not changed, and does not stand in what is answered: it may be written into afterwards.
func TestArgumentsStay(t *testing.T) {
	c := chance(5)
	told := 0
	for range 1500 {
		d := c.design()
		before := fmt.Sprint(d)
		got, err := sized.Size(d)
		sized.Check(d)
		sized.Same(d, got)
		if after := fmt.Sprint(d); after != before {
			t.Fatalf("%s becomes %s", before, after)
		}
		if want := fmt.Sprint(got); err == api.OK {
			told++
			write(&d)
			if fmt.Sprint(got) != want {
				t.Fatalf("%s becomes %s", want, fmt.Sprint(got))
			}
		}
		m := c.maker()
		d, e := api.Flat{Signals: m.signals}, m.e(4, 4)
		before = fmt.Sprint(d, e)
		one, err := sized.Expr(d, e, 4)
		sized.CheckE(d, e)
		sized.SameE(e, one)
		if after := fmt.Sprint(d, e); after != before {
			t.Fatalf("%s becomes %s", before, after)
		}
		if want := fmt.Sprint(one); err == api.OK {
			write(&e)
			if fmt.Sprint(one) != want {
				t.Fatalf("%s becomes %s", want, fmt.Sprint(one))
			}
		}
	}
	if told < 500 {
		t.Errorf("only %d designs", told)
	}
}

// alone wants that no field of some values is one of another field, too.
func alone(t *testing.T, what string, l ...[]reflect.Value) {
	t.Helper()
	seen := map[any]bool{}
	for _, fields := range l {
		for _, field := range fields {
			at := field.Addr().Interface()
			if seen[at] {
				t.Fatalf("%s: lists share a part", what)
			}
			seen[at] = true
		}
	}
}

// TestListsAreNew: no two lists of answers share a part, nor do those of one answer, whatever is shared by what was handed in.
func TestListsAreNew(t *testing.T) {
	c := chance(6)
	for range 300 {
		d := c.design()
		got, err := sized.Size(d)
		again, _ := sized.Size(d)
		third, _ := sized.Size(got)
		if err == api.OK {
			alone(t, show(d), placesOf(&d), placesOf(&got), placesOf(&again), placesOf(&third))
		}
		m := c.maker()
		e := m.e(4, 4)
		one, err := sized.Expr(api.Flat{Signals: m.signals}, e, 4)
		two, _ := sized.Expr(api.Flat{Signals: m.signals}, one, 4)
		if err == api.OK {
			alone(t, showE(d, e), placesOf(&e), placesOf(&one), placesOf(&two))
		}
	}
	bit := of(api.UnE, api.NoO, bitsOf(3, 0, 0))
	shared := turned(bit, 3)
	for range 5 {
		shared = of(api.BinE, api.BothO, shared, shared)
	}
	d := checked(shared, shared)
	set := api.T{Op: api.AssignT, Sig: 2, E: []api.E{shared}}
	block := api.T{Op: api.BlockT, L: []api.T{set, set}}
	d.Procs = []api.Proc{{L: []api.T{block, block, {Op: api.IfT, E: []api.E{shared}, L: []api.T{block, block}}}}}
	got, err := sized.Size(d)
	if err != api.OK {
		t.Fatal(err)
	}
	alone(t, "a design of shared parts", placesOf(&got))
	one, err := sized.Expr(d, shared, 1)
	if err != api.OK {
		t.Fatal(err)
	}
	alone(t, "an expression of shared parts", placesOf(&one))
}

// TestAgain: the same is told whenever it is asked.
func TestAgain(t *testing.T) {
	c := chance(7)
	for range 300 {
		d := c.design()
		want, fault := sized.Size(d)
		for range 3 {
			if got, err := sized.Size(d); err != fault || fmt.Sprint(got) != fmt.Sprint(want) {
				t.Fatalf("%s: %s, error %d, and then %s, error %d", show(d), show(want), fault, show(got), err)
			}
		}
	}
}
