package lint_test

import (
	"math"
	"slices"
	"testing"

	"filigree/api"
	"filigree/lint"
	"filigree/madeup"
	"filigree/stmt"
)

// withWires is values of which those of wires, and of outputs, are others.
func withWires(d api.Flat, v, others []uint64) []uint64 {
	v = slices.Clone(v)
	for k, s := range d.Signals {
		if s.Kind == api.WireK || s.Kind == api.OutK {
			v[k] = others[k]
		}
	}
	return v
}

// done is values behind processes, one after the other.
func done(t *testing.T, d api.Flat, v []uint64, processes []int) []uint64 {
	t.Helper()
	for _, p := range processes {
		made, e := stmt.Run(d, v, p)
		if e != api.OK {
			t.Fatalf("process %d: error %d", p, e)
		}
		v = made
	}
	return v
}

// rests wants that a clean design's processes of wires, done in order, come to rest at the same values, whatever the wires were; and tells whether they were anything else ahead of it.
func rests(t *testing.T, c *madeup.Chance, what any, d api.Flat) bool {
	t.Helper()
	order, e := lint.Order(d)
	if e != api.OK {
		t.Fatalf("%v: error %d", what, e)
	}
	v := c.Values(d)
	rest := done(t, d, v, order)
	for p, one := range d.Procs {
		if !one.Clocked && !slices.Equal(done(t, d, rest, []int{p}), rest) {
			t.Fatalf("%v: %x behind %d, and process %d makes others of them", what, rest, order, p)
		}
	}
	for range 3 {
		if other := done(t, d, withWires(d, v, c.Values(d)), order); !slices.Equal(other, rest) {
			t.Fatalf("%v: %x behind %d, and of other wires %x", what, rest, order, other)
		}
	}
	return !slices.Equal(v, rest)
}

// TestComesToRest: what follows of P12.1 to P12.3, of designs of chance that are clean.
func TestComesToRest(t *testing.T) {
	c := madeup.Chance(2)
	moved := 0
	for range 1000 {
		text := c.Module(madeup.Faults{})
		if rests(t, &c, text, whole(t, text)) {
			moved++
		}
	}
	if moved < 900 {
		t.Errorf("%d of 1000 were not at rest ahead of it", moved)
	}
}

// TestChainComesToRest: a chain is gone through from its end, and done once.
func TestChainComesToRest(t *testing.T) {
	d := whole(t, `module m(in a:1,out y:64){for l(i=0..63){assign y[i]=!y[i+1:i+1];} assign y[63]=a;}`)
	order, e := lint.Order(d)
	if e != api.OK {
		t.Fatalf("error %d", e)
	}
	for _, v := range [][]uint64{{1, 0}, {1, math.MaxUint64}, {1, 1 << 63}} {
		if got := done(t, d, v, order); got[1] != 0xaaaaaaaaaaaaaaaa {
			t.Errorf("%x of %x", got, v)
		}
		v[0] = 0
		if got := done(t, d, v, order); got[1] != 0x5555555555555555 {
			t.Errorf("%x of %x", got, v)
		}
	}
	c := madeup.Chance(3)
	for range 10 {
		rests(t, &c, "a chain", d)
	}
}
