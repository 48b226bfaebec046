package lint_test

import (
	"fmt"
	"math"
	"slices"
	"testing"

	"filigree/api"
	"filigree/lint"
)

// wide is how many bits each of the wires of a great design has.
const wide = 64

// wires is so many wires, and no processes: bit n of the design is bit n%wide of wire n/wide.
func wires(n int) api.Flat {
	var d api.Flat
	for k := range n {
		d.Signals = append(d.Signals, api.Signal{Name: fmt.Sprint("w", k), W: wide, Kind: api.WireK})
	}
	return d
}

// bits are some of one wire.
func bits(first, n int) api.E {
	return api.E{Op: api.SigE, W: n, Sig: first / wide, Hi: first%wide + n - 1, Lo: first % wide}
}

// drive writes an expression into bits of one wire.
func drive(first int, e api.E) api.T {
	return api.T{Op: api.AssignT, Sig: first / wide, Hi: first%wide + e.W - 1, Lo: first % wide, E: []api.E{e}}
}

func zero(w int) api.E { return api.E{Op: api.NumE, W: w} }

// odd is a bit that hangs on the first wires, whole.
func odd(wires int) api.E {
	var l []api.E
	for k := range wires {
		l = append(l, api.E{Op: api.UnE, N: api.OddO, W: 1, L: []api.E{bits(wide*k, wide)}})
	}
	return api.E{Op: api.UnE, N: api.OddO, W: 1, L: []api.E{{Op: api.CatE, W: wires, L: l}}}
}

// each1024 is a design of as many processes, and as many bits, as there may be: each process drives four bits.
func each1024(value func(p int) api.E) api.Flat {
	d := wires(64)
	for p := range 1024 {
		d.Procs = append(d.Procs, api.Proc{L: []api.T{drive(4*p, value(p))}})
	}
	return d
}

// upTo is the numbers from one on, up to another one, which is none of them.
func upTo(from, end int) []int {
	var l []int
	for n := from; n < end; n++ {
		l = append(l, n)
	}
	return l
}

// checked wants of a great design what Check tells alone.
func checked(t *testing.T, what any, d api.Flat, want api.Errno) {
	t.Helper()
	if e := lint.Check(d); e != want {
		t.Errorf("%v: error %d, want %d", what, e, want)
	}
}

// TestManyProcesses: chains of as many as there may be, from the last one back, and in turns.
func TestManyProcesses(t *testing.T) {
	for what, step := range map[string]int{"falling": 1023, "in turns": 5} {
		nth := func(k int) int { return (k*step + 1023) % 1024 } // which one comes k-th
		var order []int
		ahead, levels := map[int]int{}, make([]int, 1024)
		for k := range 1024 {
			order = append(order, nth(k))
			levels[nth(k)] = k
			ahead[nth(k+1)] = nth(k)
		}
		first, last := nth(0), nth(1023)
		d := each1024(func(p int) api.E {
			if p == first {
				return zero(4)
			}
			return bits(4*ahead[p], 4)
		})
		clean(t, what, d, order, levels)
		d.Procs[first].L[0].E[0] = bits(4*last, 4)
		checked(t, what+", and round", d, api.ErrLoop)
		d.Procs[last] = api.Proc{}
		checked(t, what+", and one without a driver", d, api.ErrNone)
		d.Procs[last].L = []api.T{drive(4*nth(5)+3, zero(1))}
		checked(t, what+", and one too many", d, api.ErrTwo)
		d.Procs = append(d.Procs, api.Proc{})
		checked(t, what+", and one more", d, api.ErrArg)
	}
}

// TestManyThatHang: half of the processes hang on many others, and on one of their own, so that the last one of them comes first; that is told soon.
func TestManyThatHang(t *testing.T) {
	d := each1024(func(p int) api.E {
		if p < 512 {
			return zero(4)
		}
		next := zero(3)
		if p < 1023 {
			next = bits(4*(p+1), 3)
		}
		return api.E{Op: api.CatE, W: 4, L: []api.E{odd(16), next}}
	})
	tells(t, "many", "Order", d, slices.Concat(upTo(0, 512), down(1023)[:512]))
	tells(t, "many", "Levels", d, slices.Concat(make([]int, 512), down(512)[:512]))
	d.Procs[0].L[0].E[0] = bits(4*512, 4)
	checked(t, "many, and a ring", d, api.ErrLoop)
}

// TestManyNodes: a process of as many nodes as there may be is told soon, and nothing of one more.
func TestManyNodes(t *testing.T) {
	e := bits(wide, 1)
	for range 15 {
		e = api.E{Op: api.BinE, N: api.OneO, W: 1, L: []api.E{e, e}}
	}
	d := wires(2)
	d.Procs = []api.Proc{{L: []api.T{drive(1, e)}}, {Clocked: true}}
	tells(t, "many nodes", "Drivers", d, slices.Concat([]int{-1, 0}, slices.Repeat([]int{-1}, 126)))
	refused(t, "many nodes", d, api.ErrNone)
	d.Checks = []api.Check{{Name: "c", E: zero(1)}}
	refused(t, "one node more", d, api.ErrArg)
}

// TestManyWays: each way through a process of many is asked.
func TestManyWays(t *testing.T) {
	whole := api.T{Op: api.BlockT, L: []api.T{drive(0, zero(wide))}}
	part := api.T{Op: api.BlockT, L: []api.T{drive(1, zero(wide-1))}}
	for _, left := range []int{-1, 0, 1, 500, 999, 1000} {
		d := wires(1)
		which := api.T{Op: api.CaseT, E: []api.E{zero(64)}}
		for k := range 1001 {
			way := api.T{Op: api.ArmT, L: whole.L}
			if k == left {
				way.L = part.L
			}
			if k < 1000 {
				way.E = []api.E{{Op: api.NumE, W: 64, V: math.MaxUint64 - uint64(k)}}
			}
			which.L = append(which.L, way)
		}
		d.Procs = []api.Proc{{L: []api.T{which}}}
		if left < 0 {
			clean(t, "all ways", d, []int{0}, []int{0})
		} else {
			refused(t, fmt.Sprint("all ways but ", left), d, api.ErrLatch)
		}
	}
	for depth, fault := range map[int]api.Errno{30: api.OK, 31: api.OK, 32: api.ErrArg} {
		good, bad := whole, part
		for range depth {
			good = api.T{Op: api.BlockT, L: []api.T{{Op: api.IfT, E: []api.E{zero(1)}, L: []api.T{good, whole}}}}
			bad = api.T{Op: api.BlockT, L: []api.T{{Op: api.IfT, E: []api.E{zero(1)}, L: []api.T{bad, whole}}}}
		}
		d := wires(1)
		d.Procs = []api.Proc{{L: good.L}}
		if fault != api.OK {
			refused(t, depth, d, fault)
			continue
		}
		clean(t, depth, d, []int{0}, []int{0})
		d.Procs[0].L = bad.L
		refused(t, depth, d, api.ErrLatch)
	}
}

// TestManySignals: the last bit of as many as there may be is asked for its driver, too.
func TestManySignals(t *testing.T) {
	for _, c := range []struct{ signals, w int }{{64, 64}, {512, 8}, {512, 1}, {1, 64}, {1, 1}} {
		var d api.Flat
		for k := range c.signals {
			d.Signals = append(d.Signals, api.Signal{Name: fmt.Sprint(k), W: c.w, Kind: api.OutK})
			d.Procs = append(d.Procs, api.Proc{L: []api.T{{Op: api.AssignT, Sig: k, Hi: c.w - 1, E: []api.E{zero(c.w)}}}})
		}
		clean(t, c, d, upTo(0, c.signals), make([]int, c.signals))
		last := &d.Procs[c.signals-1]
		*last = api.Proc{}
		refused(t, c, d, api.ErrNone)
		last.L = []api.T{{Op: api.AssignT, Sig: c.signals - 1, Hi: c.w - 1, Lo: c.w - 1, E: []api.E{zero(1)}}}
		drivers := slices.Repeat([]int{-1}, c.signals*c.w)
		for bit := range (c.signals - 1) * c.w {
			drivers[bit] = bit / c.w
		}
		drivers[len(drivers)-1] = c.signals - 1
		tells(t, c, "Drivers", d, drivers)
	}
	refused(t, "65 wires of 64 bits", wires(65), api.ErrArg)
}

// TestSharedLists: calls end, however often a list stands in a design, or even if it stands in itself.
func TestSharedLists(t *testing.T) {
	s := drive(0, bits(wide, wide))
	for range 12 {
		s = api.T{Op: api.BlockT, L: []api.T{s, s}}
	}
	d := wires(2)
	d.Procs = []api.Proc{{L: []api.T{s}}, {L: []api.T{drive(wide, zero(wide))}}}
	clean(t, "a list that is shared", d, []int{1, 0}, []int{1, 0})
	for range 48 {
		s = api.T{Op: api.BlockT, L: []api.T{s, s}}
	}
	d.Procs[0].L[0] = s
	refused(t, "lists that share each other", d, api.ErrArg)
	ring := api.T{Op: api.BlockT, L: make([]api.T, 1)}
	ring.L[0] = ring
	d.Procs[0].L[0] = ring
	refused(t, "a list that stands in itself", d, api.ErrArg)
	e := api.E{Op: api.UnE, N: api.NotO, W: wide, L: make([]api.E, 1)}
	e.L[0] = e
	d.Procs[0].L[0] = drive(0, e)
	refused(t, "an expression that stands in itself", d, api.ErrArg)
}
