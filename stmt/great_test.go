package stmt_test

import (
	"fmt"
	"math"
	"slices"
	"testing"

	"filigree/api"
	"filigree/stmt"
)

// many is so many wires of so many bits each, all of which may be driven.
func many(n, w int) api.Flat {
	var d api.Flat
	for k := range n {
		d.Signals = append(d.Signals, api.Signal{Name: fmt.Sprint("a signal with a name that is long ", k), W: w, Kind: api.WireK})
	}
	return d
}

// of64 is a design of one process of 64 wires of 64 bits.
func of64(l ...api.T) api.Flat {
	d := many(64, 64)
	d.Procs = []api.Proc{{L: l}}
	return d
}

// filled is so many values that are the same.
func filled(n int, v uint64) []uint64 { return slices.Repeat([]uint64{v}, n) }

// all wants what is told of a process.
func all(t *testing.T, what any, d api.Flat, p int, reads, writes, always []int) {
	t.Helper()
	tells(t, what, stmt.Reads, d, p, reads)
	tells(t, what, stmt.Writes, d, p, writes)
	tells(t, what, stmt.Always, d, p, always)
}

// within is a statement within as many others.
func within(s api.T, times int, around func(s api.T) api.T) api.T {
	for range times {
		s = around(s)
	}
	return s
}

func TestDepth(t *testing.T) {
	bit := bitsOf(1, 7, 7)
	for what, one := range map[string]struct {
		levels int
		around func(s api.T) api.T
		always []int
	}{
		"blocks":        {62, func(s api.T) api.T { return block(block(), s) }, from(nil, 128, 191)},
		"first blocks":  {31, func(s api.T) api.T { return choice(bit, block(s), block()) }, nil},
		"second blocks": {31, func(s api.T) api.T { return choice(num(1, 0), block(), block(s)) }, nil},
		"arms":          {31, func(s api.T) api.T { return cases(bit, arm([]api.E{num(1, 1)}, s), arm(nil)) }, nil},
		"last arms":     {31, func(s api.T) api.T { return cases(bit, arm([]api.E{num(1, 0)}), arm(nil, s)) }, nil},
		"all of a case": {31, func(s api.T) api.T { return cases(bit, arm(nil, s)) }, from(nil, 128, 191)},
	} {
		reads := []int{64 + 7}
		if what == "blocks" || what == "second blocks" {
			reads = nil
		}
		d := of64(within(set(2, 63, 0, num(64, 5)), one.levels, one.around))
		v := filled(64, 1<<7)
		want := slices.Clone(v)
		want[2] = 5
		makes(t, what, d, v, 0, want)
		all(t, what, d, 0, reads, from(nil, 128, 191), one.always)
		for _, more := range []int{1, 2, 50, 10000} {
			refusedWhole(t, what, of64(within(set(2, 63, 0, num(64, 5)), one.levels+more, one.around)), v)
		}
	}
}

// TestManyStatements: as many as there may be, of as many signals, are done one by one, and soon.
func TestManyStatements(t *testing.T) {
	for _, clocked := range []bool{false, true} {
		d := many(512, 8)
		var l []api.T
		for k := range 32768 {
			l = append(l, set((k+1)%512, 7, 0, bitsOf(k%512, 7, 0)))
		}
		d.Procs = []api.Proc{{Clocked: clocked, L: l}}
		v := filled(512, 0)
		v[0], v[300] = 77, 88
		want := filled(512, 77)
		if clocked {
			want = filled(512, 0)
			want[1], want[301] = 77, 88
			for k := range d.Signals {
				d.Signals[k].Kind = api.RegK
			}
		}
		bits := from(nil, 0, 4095)
		makes(t, clocked, d, v, 0, want)
		all(t, clocked, d, 0, bits, bits, bits)
		d.Checks = []api.Check{{Name: "c", E: num(1, 1)}}
		refusedWhole(t, "65537 nodes", d, v)
	}
}

// TestManyNodes: an expression of as many nodes as there may be beside its statement.
func TestManyNodes(t *testing.T) {
	e := bitsOf(63, 63, 63)
	for range 15 {
		e = of(api.BinE, api.OneO, 1, e, e)
	}
	d := of64(set(5, 9, 9, e))
	v, want := filled(64, 3), filled(64, 3)
	makes(t, "many nodes", d, v, 0, want)
	v[63], want[63], want[5] = 1<<63, 1<<63, 3|1<<9
	makes(t, "many nodes", d, v, 0, want)
	all(t, "many nodes", d, 0, []int{4095}, []int{5*64 + 9}, []int{5*64 + 9})
	refusedWhole(t, "65537 nodes", of64(set(5, 9, 9, of(api.UnE, api.NoO, 1, e))), v)
}

// TestManyLabels: the last one of as many as there may be is met, and what is none.
func TestManyLabels(t *testing.T) {
	var labels []api.E
	for k := range 65528 {
		labels = append(labels, num(64, math.MaxUint64-uint64(k)))
	}
	d := of64(cases(bitsOf(3, 63, 0), arm(labels, set(4, 63, 0, num(64, 1))), arm(nil, set(5, 63, 0, num(64, 1)))))
	all(t, "many labels", d, 0, from(nil, 192, 255), from(nil, 256, 383), nil)
	for _, k := range []int{0, 1, 30000, 65527, 65528, 65529} {
		v, want := filled(64, 0), filled(64, 0)
		v[3] = math.MaxUint64 - uint64(k)
		want[3] = v[3]
		if k < len(labels) {
			want[4] = 1
		} else {
			want[5] = 1
		}
		makes(t, k, d, v, 0, want)
	}
	d.Procs[0].L[0].L[0].E = append(labels, num(64, 1), num(64, 2))
	refusedWhole(t, "65537 nodes", d, filled(64, 0))
}

// TestManyArms: each arm, and each choice, is a way of its own, and all of them are told soon.
func TestManyArms(t *testing.T) {
	var whole, arms, choices []api.T
	for k := range 64 {
		whole = append(whole, set(k, 63, 0, num(64, 1)))
	}
	for k := range 16000 {
		arms = append(arms, arm([]api.E{num(64, uint64(k))}, set(9, 63, k%63, num(64-k%63, 3))))
		choices = append(choices, choice(num(1, 1), block(set(9, 63, k%64, num(64-k%64, 1))), block()))
	}
	first := cases(bitsOf(1, 63, 0), append(arms, arm(nil, whole...))...)
	d := of64(first)
	makes(t, "the last arm", d, filled(64, 20000), 0, filled(64, 1))
	all(t, "arms", d, 0, from(nil, 64, 127), from(nil, 0, 4095), []int{9*64 + 62, 9*64 + 63})
	d = of64(append(choices[:10000], whole...)...)
	makes(t, "choices", d, filled(64, 20000), 0, filled(64, 1))
	all(t, "choices", d, 0, nil, from(nil, 0, 4095), from(nil, 0, 4095))
	d = of64(choices[:10000]...)
	all(t, "choices alone", d, 0, nil, from(nil, 9*64, 10*64-1), nil)
	var ways []api.T
	for k := range 500 {
		ways = append(ways, arm([]api.E{num(64, uint64(k))}, whole...))
	}
	all(t, "ways that are the same", of64(cases(num(64, 3), append(ways, arm(nil, whole...))...)), 0, nil, from(nil, 0, 4095), from(nil, 0, 4095))
}

func TestManyBits(t *testing.T) {
	for _, c := range []struct{ signals, w int }{{64, 64}, {512, 8}, {512, 1}, {1, 64}, {1, 1}} {
		d := many(c.signals, c.w)
		last, total := c.signals-1, c.signals*c.w
		d.Procs = []api.Proc{{L: []api.T{set(last, c.w-1, c.w-1, bitsOf(0, 0, 0)), set(0, 0, 0, at(last, bitsOf(last, c.w-1, 0)))}}}
		reads := slices.Compact(append([]int{0}, from(nil, max(1, last*c.w), total-1)...))
		writes := slices.Compact([]int{0, total - 1})
		all(t, c, d, 0, reads, writes, writes)
		bits, err := stmt.Bits(d)
		if err != api.OK || len(bits) != c.signals+1 || bits[c.signals] != total || bits[last] != last*c.w {
			t.Errorf("%v: %d, error %d", c, bits, err)
		}
		v := filled(c.signals, 0)
		v[0] = 1
		got, err := stmt.Run(d, v, 0)
		if err != api.OK || got[last]>>(c.w-1) != 1 && c.signals > 1 {
			t.Errorf("%v: %d, error %d", c, got, err)
		}
	}
	for _, c := range []struct{ signals, w int }{{65, 64}, {513, 1}, {513, 8}, {1, 65}} {
		d := many(c.signals, c.w)
		d.Procs = []api.Proc{{L: []api.T{set(0, 0, 0, num(1, 1))}}}
		refusedWhole(t, c, d, filled(c.signals, 0))
	}
}

func TestManyProcesses(t *testing.T) {
	d := many(512, 8)
	for k := range 1024 {
		d.Procs = append(d.Procs, api.Proc{L: []api.T{set(k%512, 7, 0, num(8, uint64(k/8)))}})
	}
	for _, p := range []int{0, 1, 511, 512, 1022, 1023} {
		v := filled(512, 200)
		want := slices.Clone(v)
		want[p%512] = uint64(p / 8)
		makes(t, p, d, v, p, want)
		bits := from(nil, p%512*8, p%512*8+7)
		all(t, p, d, p, nil, bits, bits)
	}
	refused(t, "one behind the last", d, filled(512, 200), 1024)
	d.Procs = append(d.Procs, api.Proc{})
	refusedWhole(t, "1025 processes", d, filled(512, 200))
}

// TestSharedLists: calls end, however often a list stands in a process, or even if it stands in itself.
func TestSharedLists(t *testing.T) {
	s := set(2, 63, 0, bitsOf(3, 63, 0))
	for range 12 {
		s = block(s, s)
	}
	v, want := filled(64, 3), filled(64, 3)
	v[3], want[3], want[2] = 9, 9, 9
	d := of64(s)
	makes(t, "lists that are shared", d, v, 0, want)
	all(t, "lists that are shared", d, 0, from(nil, 192, 255), from(nil, 128, 191), from(nil, 128, 191))
	for range 48 {
		s = block(s, s)
	}
	refusedWhole(t, "lists that share each other", of64(s), v)
	ring := block(block())
	ring.L[0] = ring
	refusedWhole(t, "a list that stands in itself", of64(ring), v)
	d.Procs = append(d.Procs, api.Proc{L: []api.T{ring}})
	refusedWhole(t, "another process's list that stands in itself", d, v)
	e := of(api.UnE, api.NotO, 64, num(64, 1))
	e.L[0] = e
	refusedWhole(t, "an expression that stands in itself", of64(set(2, 63, 0, e)), v)
}
