package cycle_test

import (
	"slices"
	"testing"

	"filigree/api"
	"filigree/cycle"
	"filigree/madeup"
	"filigree/stmt"
)

func isWire(s api.Signal) bool { return s.Kind == api.WireK || s.Kind == api.OutK }

// withWires is values of which those of wires, and of outputs, are others.
func withWires(d api.Flat, v, others []uint64) []uint64 {
	v = slices.Clone(v)
	for k, s := range d.Signals {
		if isWire(s) {
			v[k] = others[k]
		}
	}
	return v
}

// isRest tells whether no process of wires makes others of values.
func isRest(t *testing.T, d api.Flat, v []uint64) bool {
	t.Helper()
	for p, one := range d.Procs {
		if one.Clocked {
			continue
		}
		made, e := stmt.Run(d, v, p)
		if e != api.OK {
			t.Fatalf("process %d: error %d", p, e)
		}
		if !slices.Equal(made, v) {
			return false
		}
	}
	return true
}

func settled(t *testing.T, what any, d api.Flat, v []uint64) []uint64 {
	t.Helper()
	rest, e := cycle.Settle(d, v)
	if e != api.OK {
		t.Fatalf("%v: error %d", what, e)
	}
	return rest
}

// TestComesToRest: a clean design comes to rest, whatever its wires were, at the same values; inputs and registers stay.
func TestComesToRest(t *testing.T) {
	c := madeup.Chance(2)
	moved := 0
	for range 300 {
		text := c.Module(madeup.Faults{})
		d := whole(t, text)
		v := c.Values(d)
		rest := settled(t, text, d, v)
		if !isRest(t, d, rest) || !slices.Equal(rest, withWires(d, v, rest)) {
			t.Fatalf("%s: %x of %x", text, rest, v)
		}
		makes(t, text, cycle.Settle, d, rest, rest)
		for range 3 {
			other := withWires(d, v, c.Values(d))
			makes(t, text, cycle.Settle, d, other, rest)
			if !slices.Equal(other, rest) {
				moved++
			}
		}
	}
	if moved < 700 {
		t.Errorf("%d of 900 were not at rest ahead of it", moved)
	}
}

// nth puts the bits of a number into the wires.
func nth(d api.Flat, v []uint64, n int) []uint64 {
	v = slices.Clone(v)
	for k, s := range d.Signals {
		if isWire(s) {
			v[k] = uint64(n) & (1<<s.W - 1)
			n >>= s.W
		}
	}
	return v
}

func wireBits(d api.Flat) int {
	bits := 0
	for _, s := range d.Signals {
		if isWire(s) {
			bits += s.W
		}
	}
	return bits
}

// TestOneRestAlone: of all that the wires can be, one rest is the only one, for each inputs and registers.
func TestOneRestAlone(t *testing.T) {
	c := madeup.Chance(3)
	for tried := 0; tried < 30; {
		text := c.Module(madeup.Faults{})
		d := whole(t, text)
		if wireBits(d) > 8 {
			continue
		}
		tried++
		v := c.Values(d)
		rest := settled(t, text, d, v)
		for n := range 1 << wireBits(d) {
			if w := nth(d, v, n); isRest(t, d, w) != slices.Equal(w, rest) {
				t.Fatalf("%s: %x comes to rest at %x, and so does %x", text, v, rest, w)
			}
		}
	}
}

// TestWiresAreForgotten: what wires were ahead of a cycle makes no difference to the ones that follow.
func TestWiresAreForgotten(t *testing.T) {
	c := madeup.Chance(4)
	for range 200 {
		text := c.Module(madeup.Faults{})
		d := whole(t, text)
		ins := c.Inputs(d, 5)
		outs, checks, e := cycle.Run(d, ins)
		if e != api.OK {
			t.Fatalf("%s: error %d", text, e)
		}
		v, _ := cycle.Reset(d)
		for k, in := range ins {
			v, _ = cycle.Put(d, withWires(d, v, c.Values(d)), in)
			v, _ = cycle.Settle(d, v)
			looks(t, text, d, v, outs[k], checks[k])
			v, _ = cycle.Tick(d, v)
		}
	}
}
