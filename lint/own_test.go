package lint_test

import (
	"fmt"
	"testing"

	"filigree/api"
	"filigree/lint"
	"filigree/madeup"
)

// told is all that is told of a design.
func told(d api.Flat) map[string]any {
	all := map[string]any{"Check": lint.Check(d)}
	for name, call := range lists {
		l, e := call(d)
		all[name], all[name+"'s error"] = l, e
	}
	return all
}

// TestArgumentsStay: a design is not changed, and what is told of it does not hang on what is written into it afterwards.
func TestArgumentsStay(t *testing.T) {
	c := madeup.Chance(4)
	for range 200 {
		d := whole(t, c.Module(madeup.Faults{Two: c.Seldom(9), None: c.Seldom(9), Latch: c.Seldom(9), Ring: c.Seldom(4)}))
		before := fmt.Sprint(d)
		all := told(d)
		if after := fmt.Sprint(d); after != before {
			t.Fatalf("%s becomes %s", before, after)
		}
		want := fmt.Sprint(all)
		madeup.Wipe(d)
		if got := fmt.Sprint(all); got != want {
			t.Fatalf("%s becomes %s", want, got)
		}
	}
}

// TestAgain: the same is told whenever it is asked, whatever was asked ahead of it, and whatever was written into what was told.
func TestAgain(t *testing.T) {
	c := madeup.Chance(5)
	for range 100 {
		d, other := whole(t, c.Module(madeup.Faults{})), whole(t, c.Module(madeup.Faults{Ring: true}))
		first := told(d)
		want := fmt.Sprint(first)
		for range 3 {
			told(other)
			again := told(d)
			if got := fmt.Sprint(again); got != want {
				t.Fatalf("%s, and then %s", want, got)
			}
			for name := range lists {
				l := again[name].([]int)
				clear(l[:cap(l)])
			}
			if got := fmt.Sprint(first); got != want {
				t.Fatalf("%s becomes %s", want, got)
			}
		}
	}
}

// TestNamesMakeNoDifference: nor does what registers are in the beginning.
func TestNamesMakeNoDifference(t *testing.T) {
	c := madeup.Chance(6)
	for range 100 {
		d := whole(t, c.Module(madeup.Faults{Latch: c.Seldom(9), Ring: c.Seldom(4)}))
		want := fmt.Sprint(told(d))
		for k := range d.Signals {
			d.Signals[k].Name = fmt.Sprint("another name ", len(d.Signals)-k)
			if d.Signals[k].Kind == api.RegK {
				d.Signals[k].Init = 0
			}
		}
		d.Checks = nil
		if got := fmt.Sprint(told(d)); got != want {
			t.Fatalf("%s, and then %s", want, got)
		}
	}
}
