package lint_test

import (
	"testing"

	"filigree/api"
	"filigree/madeup"
)

// TestAgainstTheModel: of designs of chance all calls tell what the chapter's sentences say.
func TestAgainstTheModel(t *testing.T) {
	c := madeup.Chance(1)
	found := map[api.Errno]int{}
	for k := range 2000 {
		f := madeup.Faults{Two: c.Seldom(8), None: c.Seldom(8), Latch: c.Seldom(4), Ring: c.Seldom(3)}
		text := c.Module(f)
		d := whole(t, text)
		m := modelOf(d)
		found[m.fault]++
		if m.fault != api.OK {
			refused(t, text, d, m.fault)
		} else {
			isClean(t, text, d, m)
		}
		if m.fault != api.ErrTwo {
			tells(t, text, "Drivers", d, m.drivers)
		}
		if t.Failed() {
			t.Fatalf("%d: %v", k, brief{d})
		}
	}
	for _, e := range []api.Errno{api.OK, api.ErrTwo, api.ErrNone, api.ErrLatch, api.ErrLoop} {
		if found[e] < 100 {
			t.Errorf("error %d: %d times", e, found[e])
		}
	}
}
