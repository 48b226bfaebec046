package cycle_test

import (
	"slices"
	"testing"

	"filigree/api"
	"filigree/cycle"
	"filigree/lint"
	"filigree/madeup"
)

// asModel wants that all calls tell what the model does.
func asModel(t *testing.T, c *madeup.Chance, d api.Flat) (outs [][]uint64, checks [][]bool) {
	t.Helper()
	m := model{t, d}
	begins(t, brief{d}, d, m.reset())
	for range 3 {
		v := c.Values(d)
		in := c.Values(d, api.InK)
		puts(t, brief{d}, d, v, in, m.put(v, in))
		makes(t, brief{d}, cycle.Settle, d, v, m.settle(v))
		makes(t, brief{d}, cycle.Tick, d, v, m.tick(v))
		outs, checks := m.outs(v)
		looks(t, brief{d}, d, v, outs, checks)
	}
	ins := c.Inputs(d, c.Below(8))
	outs, checks = m.run(ins)
	runs(t, brief{d}, d, ins, outs, checks)
	return outs, checks
}

// TestAgainstTheModel: designs of chance, clean or not, do what the chapter's sentences say.
func TestAgainstTheModel(t *testing.T) {
	c := madeup.Chance(1)
	found := map[api.Errno]int{}
	seen := map[string]int{}
	for range 800 {
		text := c.Module(madeup.Faults{Two: c.Seldom(9), None: c.Seldom(9), Latch: c.Seldom(6), Ring: c.Seldom(6)})
		d := whole(t, text)
		fault := lint.Check(d)
		found[fault]++
		if fault != api.OK {
			refusedWhole(t, text, d, fault)
		} else {
			outs, checks := asModel(t, &c, d)
			if len(slices.CompactFunc(outs, slices.Equal)) > 2 {
				seen["outputs that change"]++
			}
			for _, row := range checks {
				if slices.Contains(row, true) && slices.Contains(row, false) {
					seen["checks that differ"]++
				}
			}
		}
		if t.Failed() {
			t.Fatal(text)
		}
	}
	if found[api.OK] < 400 || found[api.ErrTwo] < 20 || found[api.ErrNone] < 20 || found[api.ErrLatch] < 20 || found[api.ErrLoop] < 20 || seen["outputs that change"] < 100 || seen["checks that differ"] < 100 {
		t.Errorf("%v, %v", found, seen)
	}
}
