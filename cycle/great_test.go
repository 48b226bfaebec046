package cycle_test

import (
	"fmt"
	"math"
	"math/bits"
	"slices"
	"testing"

	"filigree/api"
	"filigree/cycle"
)

// many is so many signals of a kind, of so many bits each.
func many(n, w, kind int) api.Flat {
	var d api.Flat
	for k := range n {
		d.Signals = append(d.Signals, api.Signal{Name: fmt.Sprint("s", k), W: w, Kind: kind})
	}
	return d
}

// part is bits of a design whose signals are all of 64 bits, by the number of the lowest one.
func part(first, w int) api.E {
	return api.E{Op: api.SigE, W: w, Sig: first / 64, Hi: first%64 + w - 1, Lo: first % 64}
}

func num(w int, v uint64) api.E { return api.E{Op: api.NumE, W: w, V: v} }

// drive writes an expression into bits that are told likewise.
func drive(first int, e api.E) api.T {
	return api.T{Op: api.AssignT, Sig: first / 64, Hi: first%64 + e.W - 1, Lo: first % 64, E: []api.E{e}}
}

func plus(e api.E, v uint64) api.E {
	return api.E{Op: api.BinE, N: api.AddO, W: e.W, L: []api.E{e, num(e.W, v)}}
}

// nibbles are 1024 processes of four bits each: all bits that there may be.
func nibbles(kind int, value func(p int) api.E) api.Flat {
	d := many(64, 64, kind)
	for p := range 1024 {
		d.Procs = append(d.Procs, api.Proc{Clocked: kind == api.RegK, L: []api.T{drive(4*p, value(p))}})
	}
	return d
}

// packed is values of 64 bits that are made of numbers of four.
func packed(nibble func(p int) int) []uint64 {
	v := make([]uint64, 64)
	for p := range 1024 {
		v[p/16] |= uint64(nibble(p)&15) << (p % 16 * 4)
	}
	return v
}

// TestLongChain: as many processes as there may be, each of which hangs on the one behind it, or ahead of it.
func TestLongChain(t *testing.T) {
	down := nibbles(api.WireK, func(p int) api.E {
		if p == 1023 {
			return num(4, 5)
		}
		return plus(part(4*p+4, 4), 1)
	})
	want := packed(func(p int) int { return 5 + 1023 - p })
	makes(t, "from the last one back", cycle.Settle, down, make([]uint64, 64), want)
	makes(t, "at rest", cycle.Settle, down, want, want)
	makes(t, "all ones", cycle.Settle, down, slices.Repeat([]uint64{math.MaxUint64}, 64), want)
	up := nibbles(api.OutK, func(p int) api.E {
		if p == 0 {
			return num(4, 7)
		}
		return plus(part(4*p-4, 4), 3)
	})
	want = packed(func(p int) int { return 7 + 3*p })
	makes(t, "from the first one on", cycle.Settle, up, make([]uint64, 64), want)
	runs(t, "one cycle", up, [][]uint64{nil}, [][]uint64{want}, make([][]bool, 1))
	up.Procs[0].L[0] = drive(0, part(4092, 4))
	refusedWhole(t, "and round", up, api.ErrLoop)
	up.Procs[0] = api.Proc{}
	refusedWhole(t, "and none", up, api.ErrNone)
	up.Procs = append(up.Procs, api.Proc{})
	refusedWhole(t, "1025 processes", up, api.ErrArg)
}

// TestGreatRing: registers that take on each other's values, at once, wherever they stand.
func TestGreatRing(t *testing.T) {
	d := nibbles(api.RegK, func(p int) api.E { return part((4*p+4*5)%4096, 4) })
	for k := range d.Signals {
		d.Signals[k].Init = uint64(k) * 0x123456789abcdef
	}
	begin, e := cycle.Reset(d)
	if e != api.OK || begin[63] != 63*0x123456789abcdef {
		t.Fatalf("%x, error %d", begin, e)
	}
	nibble := func(p int) int { return int(begin[p%1024/16] >> (p % 16 * 4) & 15) }
	next := packed(func(p int) int { return nibble(p + 5) })
	makes(t, "a ring", cycle.Tick, d, begin, next)
	makes(t, "a ring, again", cycle.Tick, d, next, packed(func(p int) int { return nibble(p + 10) }))
	makes(t, "no wires", cycle.Settle, d, begin, begin)
}

// TestManySignals: the last ones of as many as there may be are put, told, and seen.
func TestManySignals(t *testing.T) {
	for _, c := range []struct{ signals, w int }{{64, 64}, {512, 8}, {512, 1}, {1, 64}, {1, 1}} {
		last := uint64(math.MaxUint64) >> (64 - c.w)
		in := slices.Repeat([]uint64{last}, c.signals)
		d := many(c.signals, c.w, api.InK)
		puts(t, c, d, make([]uint64, c.signals), in, in)
		d.Signals[c.signals-1].W--
		refusedPut(t, c, d, make([]uint64, c.signals), in, api.ErrArg)
		d = many(c.signals, c.w, api.OutK)
		for k := range c.signals {
			d.Procs = append(d.Procs, api.Proc{L: []api.T{{Op: api.AssignT, Sig: k, Hi: c.w - 1, E: []api.E{num(c.w, last)}}}})
		}
		runs(t, c, d, make([][]uint64, 2), [][]uint64{in, in}, make([][]bool, 2))
		looks(t, c, d, make([]uint64, c.signals), make([]uint64, c.signals), nil)
		d = many(c.signals, c.w, api.RegK)
		for k := range c.signals {
			d.Signals[k].Init = last
		}
		begins(t, c, d, in)
	}
	refusedWhole(t, "65 of 64 bits", many(65, 64, api.InK), api.ErrArg)
	refusedWhole(t, "513 signals", many(513, 1, api.InK), api.ErrArg)
}

// TestManyNodes: a process, and a check, of as many nodes as there may be.
func TestManyNodes(t *testing.T) {
	e := part(64, 1)
	for range 14 {
		e = api.E{Op: api.BinE, N: api.OneO, W: 1, L: []api.E{e, e}}
	}
	d := many(2, 64, api.InK)
	d.Signals[0] = api.Signal{Name: "r", W: 64, Kind: api.RegK, Init: 6}
	d.Procs = []api.Proc{{Clocked: true, L: []api.T{drive(0, e)}}}
	d.Checks = []api.Check{{Name: "c", E: e}, {Name: "k", E: part(0, 1)}}
	runs(t, "many nodes", d, rows[uint64](6, 7, 6), make([][]uint64, 3), [][]bool{{false, false}, {true, false}, {false, true}})
	makes(t, "many nodes", cycle.Tick, d, []uint64{6, 1}, []uint64{7, 1})
	d.Checks = append(d.Checks, api.Check{Name: "n", E: api.E{Op: api.UnE, N: api.NoO, W: 1, L: []api.E{part(0, 1)}}})
	refusedWhole(t, "65537 nodes", d, api.ErrArg)
}

// TestManyChecks: each of many is told, in its place.
func TestManyChecks(t *testing.T) {
	d := many(2, 64, api.InK)
	var want []bool
	for k := range 2000 {
		e := api.E{Op: api.IndexE, W: 1, Sig: k % 2, L: []api.E{num(7, uint64(k/2%128))}}
		d.Checks = append(d.Checks, api.Check{E: e})
		want = append(want, k%2 == 0 && k/2%128 < 64 || k%2 == 1 && k/2%128 == 63)
	}
	looks(t, "many checks", d, []uint64{math.MaxUint64, 1 << 63}, nil, want)
}

// TestDepth: as deep as there may be, and no deeper.
func TestDepth(t *testing.T) {
	for levels, want := range map[int]api.Errno{61: api.OK, 62: api.OK, 63: api.ErrArg, 1000: api.ErrArg} {
		s := drive(0, num(64, 5))
		for range levels {
			s = api.T{Op: api.BlockT, L: []api.T{s}}
		}
		d := many(1, 64, api.OutK)
		d.Procs = []api.Proc{{L: []api.T{s}}}
		if want != api.OK {
			refusedWhole(t, levels, d, want)
		} else {
			makes(t, levels, cycle.Settle, d, []uint64{1}, []uint64{5})
		}
	}
}

// TestManyCycles: what is kept from cycle to cycle stays right, however many there are.
func TestManyCycles(t *testing.T) {
	d := whole(t, `module m(in a:1,out y:16){reg q:16=1; on tick{q<={q[14:0],q[15:15]^q[13:13]^q[12:12]^q[10:10]^a};} assign y=q; check c:q[0];}`)
	var ins, outs [][]uint64
	var checks [][]bool
	q := uint16(1)
	for k := range 20000 {
		a := uint16(bits.OnesCount(uint(k)) % 2)
		ins, outs, checks = append(ins, []uint64{uint64(a)}), append(outs, []uint64{uint64(q)}), append(checks, []bool{q&1 == 1})
		q = q<<1 | (q>>15^q>>13^q>>12^q>>10^a)&1
	}
	runs(t, "many cycles", d, ins, outs, checks)
	ins[19999] = []uint64{2}
	refusedRun(t, "many cycles, the last one wrong", d, ins, api.ErrArg)
}

// TestSharedLists: calls end, however often a list stands in a design, or even if it stands in itself.
func TestSharedLists(t *testing.T) {
	s := drive(0, plus(part(64, 64), 1))
	for range 10 {
		s = api.T{Op: api.BlockT, L: []api.T{s, s}}
	}
	d := many(2, 64, api.InK)
	d.Signals[0].Kind = api.WireK
	d.Procs = []api.Proc{{L: []api.T{s}}}
	makes(t, "a list that is shared", cycle.Settle, d, []uint64{0, 8}, []uint64{9, 8})
	for range 48 {
		s = api.T{Op: api.BlockT, L: []api.T{s, s}}
	}
	d.Procs[0].L[0] = s
	refusedWhole(t, "lists that share each other", d, api.ErrArg)
	ring := api.T{Op: api.BlockT, L: make([]api.T, 1)}
	ring.L[0] = ring
	d.Procs[0].L[0] = ring
	refusedWhole(t, "a list that stands in itself", d, api.ErrArg)
	e := api.E{Op: api.UnE, N: api.NoO, W: 1, L: make([]api.E, 1)}
	e.L[0] = e
	d.Procs = nil
	d.Checks = []api.Check{{E: e}}
	refusedWhole(t, "a check that stands in itself", d, api.ErrArg)
}
