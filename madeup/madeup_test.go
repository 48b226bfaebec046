package madeup_test

import (
	"fmt"
	"slices"
	"testing"

	"filigree/api"
	"filigree/eval"
	"filigree/lint"
	"filigree/madeup"
)

func TestSameEachTime(t *testing.T) {
	a, b, other := madeup.Chance(1), madeup.Chance(1), madeup.Chance(2)
	differ := false
	for range 20 {
		first := a.Module(madeup.Faults{})
		if second := b.Module(madeup.Faults{}); second != first {
			t.Fatalf("%s, and %s", first, second)
		}
		differ = differ || first != other.Module(madeup.Faults{})
	}
	if !differ {
		t.Error("another beginning makes up the same")
	}
}

// TestModulesAreClean: those that may have no faults are, and others have each of them, now and then.
func TestModulesAreClean(t *testing.T) {
	c := madeup.Chance(3)
	for range 300 {
		text := c.Module(madeup.Faults{})
		d, e := madeup.Design(text)
		if e != api.OK || lint.Check(d) != api.OK {
			t.Fatalf("%s: error %d, %d", text, e, lint.Check(d))
		}
	}
	for want, f := range map[api.Errno]madeup.Faults{api.ErrTwo: {Two: true}, api.ErrNone: {None: true}, api.ErrLatch: {Latch: true}, api.ErrLoop: {Ring: true}} {
		found := map[api.Errno]int{}
		for range 100 {
			text := c.Module(f)
			d, e := madeup.Design(text)
			if e != api.OK {
				t.Fatalf("%s: error %d", text, e)
			}
			found[lint.Check(d)]++
		}
		if found[want] < 10 || found[want]+found[api.OK] != 100 {
			t.Errorf("%d of error %d", found, want)
		}
	}
}

func TestValues(t *testing.T) {
	c := madeup.Chance(4)
	for range 100 {
		d, _ := madeup.Design(c.Module(madeup.Faults{}))
		if v := c.Values(d); eval.Values(d, v) != api.OK {
			t.Fatalf("%x of %v", v, d.Signals)
		}
		ins := 0
		for _, s := range d.Signals {
			if s.Kind == api.InK {
				ins++
			}
		}
		if rows := c.Inputs(d, 3); len(rows) != 3 || len(rows[2]) != ins {
			t.Fatalf("%x of %v", rows, d.Signals)
		}
	}
}

func TestShuffled(t *testing.T) {
	c := madeup.Chance(5)
	l := []int{1, 2, 3, 4, 5}
	found := map[string]bool{}
	for range 1000 {
		s := madeup.Shuffled(&c, l)
		found[fmt.Sprint(s)] = true
		slices.Sort(s)
		if !slices.Equal(s, l) {
			t.Fatalf("%d", s)
		}
	}
	if len(found) != 120 {
		t.Errorf("%d orders", len(found))
	}
}

func TestDesignTellsErrors(t *testing.T) {
	for text, want := range map[string]api.Errno{`module`: api.ErrEnd, `module n(){}`: api.ErrNoModule, `module m(in a:2,out y:3){assign y=a;}`: api.ErrSize, `module m(){}`: api.OK} {
		if _, e := madeup.Design(text); e != want {
			t.Errorf("%s: error %d, want %d", text, e, want)
		}
	}
}

// TestWipe: nothing is left of a design, in whatever list it stands.
func TestWipe(t *testing.T) {
	c := madeup.Chance(6)
	for range 50 {
		d, _ := madeup.Design(c.Module(madeup.Faults{}))
		statements, signals := d.Procs[0].L, d.Signals
		if len(statements) == 0 {
			continue
		}
		expressions := statements[0].E
		madeup.Wipe(d)
		if signals[0] != (api.Signal{}) || statements[0].Op != 0 || len(expressions) > 0 && expressions[0].Op != 0 || d.Procs[0].L != nil {
			t.Fatalf("%v", d)
		}
	}
}
