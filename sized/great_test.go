package sized_test

import (
	"fmt"
	"math"
	"slices"
	"testing"

	"filigree/api"
	"filigree/sized"
)

// heap is an expression of 2 to so many levels, less 1, nodes, which share no list; leaf is how all its leaves are.
func heap(levels int, leaf api.E) api.E {
	if levels == 1 {
		return leaf
	}
	return of(api.BinE, api.XorO, heap(levels-1, leaf), heap(levels-1, leaf))
}

// turned is an expression with so many nodes around it.
func turned(e api.E, times int) api.E {
	for range times {
		e = of(api.UnE, api.NotO, e)
	}
	return e
}

// endless is a list in which it stands itself.
func endless() []api.E {
	l := []api.E{of(api.UnE, api.NotO)}
	l[0].L = l
	return l
}

// checked is a design of a check.
func checked(e ...api.E) api.Flat {
	d := api.Flat{Signals: fewSignals()}
	for _, one := range e {
		d.Checks = append(d.Checks, api.Check{Name: "c", E: one})
	}
	return d
}

func TestNodesOfAnExpression(t *testing.T) {
	d := checked()
	bit := bitsOf(3, 0, 0)
	most := turned(heap(16, bit), 1)
	got, err := sized.Expr(d, most, 1)
	if err != api.OK || got.L[0].L[1].L[0].W != 1 {
		t.Errorf("65536 nodes: error %d", err)
	}
	if err := sized.CheckE(d, got); err != api.OK {
		t.Errorf("65536 nodes: error %d", err)
	}
	for _, e := range []api.E{turned(heap(16, bit), 2), heap(17, bit), of(api.CatE, 0, slices.Repeat([]api.E{bit}, 65536)...), of(api.CatE, 0, slices.Repeat([]api.E{bit}, 300000)...)} {
		fails(t, d, e, 1, api.ErrBound)
		e.W = 1
		if err := sized.CheckE(d, e); err != api.ErrBound {
			t.Errorf("CheckE: error %d", err)
		}
	}
	// That there are too many is told ahead of widths, and behind shapes.
	wide := of(api.CatE, 0, slices.Repeat([]api.E{bit}, 65535)...)
	fails(t, d, wide, 1, api.ErrSize)
	wide.L = append(wide.L, number(1, 0))
	fails(t, d, wide, 1, api.ErrBound)
	fails(t, d, wide, 65, api.ErrArg)
	fails(t, d, wide, -1, api.ErrArg)
	fails(t, api.Flat{}, wide, 1, api.ErrArg)
	wide.L[65535].N = 1
	fails(t, d, wide, 1, api.ErrArg)
	wide.L[65535] = number(1, 0)
	fails(t, api.Flat{Signals: append(fewSignals(), fewSignals()...)}, wide, 1, api.ErrArg)
	bad := turned(heap(17, bit), 1)
	bad.L[0].L[1].L[1].L[0].N = 0
	fails(t, d, bad, 1, api.ErrArg)
}

func TestDepthOfAnExpression(t *testing.T) {
	d := checked()
	bit := bitsOf(3, 0, 0)
	got, err := sized.Expr(d, turned(bit, 63), 0)
	if err != api.OK || sized.CheckE(d, got) != api.OK {
		t.Errorf("64 deep: error %d", err)
	}
	for _, deep := range []int{64, 65, 100, 1<<16 - 1} {
		fails(t, d, turned(bit, deep), 0, api.ErrBound)
		fails(t, d, turned(number(0, 2), deep), 1, api.ErrBound)
		fails(t, d, turned(number(1, 2), deep), 0, api.ErrArg)
		fails(t, d, turned(bit, deep), -1, api.ErrArg)
		fails(t, d, of(api.CatE, 0, bit, turned(bit, deep-1), bit), 0, api.ErrBound)
	}
	fails(t, d, of(api.CatE, 0, bitsOf(2, 63, 0), turned(bit, 62)), 0, api.ErrSize)
	fails(t, d, of(api.CatE, 0, bitsOf(2, 63, 0), turned(bit, 63)), 0, api.ErrBound)
	// Each list of parts may hold the deepest one.
	for _, e := range []api.E{of(api.CondE, 0, bit, bit, turned(bit, 63)), of(api.BinE, api.EqO, bit, turned(bit, 63)), {Op: api.IndexE, L: []api.E{turned(bit, 63)}}, extended(api.ZextO, 3, turned(bit, 63))} {
		fails(t, d, e, 0, api.ErrBound)
	}
}

// TestManySignals: as many as there may be of them, and of their bits, are asked of a design, not of an expression.
func TestManySignals(t *testing.T) {
	many := func(n, w int) api.Flat {
		d := api.Flat{}
		for k := range n {
			d.Signals = append(d.Signals, api.Signal{Name: fmt.Sprint("s", k), W: w, Kind: api.WireK})
		}
		return d
	}
	good := func(d api.Flat) {
		t.Helper()
		if got, err := sized.Size(d); err != api.OK || !slices.Equal(got.Signals, d.Signals) || sized.Check(d) != api.OK {
			t.Errorf("%d signals: error %d", len(d.Signals), err)
		}
	}
	bad := func(d api.Flat, fault api.Errno) {
		t.Helper()
		failsAll(t, fmt.Sprint(len(d.Signals), " signals"), d, fault)
		if err := sized.Check(d); err != fault {
			t.Errorf("Check: error %d, want %d", err, fault)
		}
	}
	good(many(512, 1))
	good(many(512, 8))
	good(many(64, 64))
	bad(many(513, 1), api.ErrBound)
	bad(many(65, 64), api.ErrBound)
	d := many(512, 8)
	d.Signals[77].W = 9
	bad(d, api.ErrBound)
	for _, d := range []api.Flat{many(513, 1), many(65, 64), many(4000, 64)} {
		last := len(d.Signals) - 1
		if got, err := sized.Expr(d, bitsOf(last, 0, 0), 0); err != api.OK || got.W != 1 {
			t.Errorf("an expression of %d signals: error %d", last, err)
		}
	}
	// What there is too much of is told ahead of what may not be.
	bad(many(513, 0), api.ErrBound)
	bad(many(512, 0), api.ErrArg)
	bad(api.Flat{Signals: make([]api.Signal, 513)}, api.ErrBound)
	bad(api.Flat{Signals: make([]api.Signal, 512)}, api.ErrArg)
	for w, fault := range map[int]api.Errno{4096: api.ErrArg, 4097: api.ErrBound, math.MaxInt: api.ErrBound, 1 << 62: api.ErrBound, 1 << 32: api.ErrBound, 0: api.ErrArg, -1: api.ErrArg, math.MinInt: api.ErrArg} {
		bad(many(1, w), fault)
	}
	bad(many(4, 1<<62), api.ErrBound)
	bad(many(2, math.MaxInt), api.ErrBound)
	bad(many(300, math.MinInt), api.ErrArg)
	// A width below 0 counts as none: it makes no room.
	for _, w := range []int{-1, -64, math.MinInt} {
		for _, at := range []int{0, 1, 64, 65} {
			d := many(66, 63)
			d.Signals[at].W = w
			d.Signals[30].W = 65
			bad(d, api.ErrBound)
			d.Signals[30].W = 64
			bad(d, api.ErrArg)
		}
	}
}

func TestManyProcesses(t *testing.T) {
	d := api.Flat{Signals: fewSignals(), Procs: make([]api.Proc, 1024)}
	if err := sized.Check(d); err != api.OK {
		t.Errorf("1024 processes: error %d", err)
	}
	d.Procs[1023].L = []api.T{{}}
	failsAll(t, "1024 processes", d, api.ErrArg)
	d.Procs = append(d.Procs, api.Proc{})
	failsAll(t, "1025 processes", d, api.ErrBound)
	d.Signals[0].Name = ""
	failsAll(t, "1025 processes", d, api.ErrBound)
	if got, err := sized.Expr(api.Flat{Signals: fewSignals(), Procs: d.Procs}, number(1, 1), 0); err != api.OK || got.W != 1 {
		t.Errorf("an expression beside 1025 processes: error %d", err)
	}
}

func repeated[N any](n N, times int) []N { return slices.Repeat([]N{n}, times) }

// TestNodesOfADesign: statements and expressions of all processes, and those of checks, count, each one.
func TestNodesOfADesign(t *testing.T) {
	one := number(1, 1)
	block := api.T{Op: api.BlockT}
	set := api.T{Op: api.AssignT, Sig: 1, E: []api.E{of(api.UnE, api.NotO, one)}}
	choice := api.T{Op: api.IfT, E: []api.E{one}, L: []api.T{block, block}}
	arms := api.T{Op: api.CaseT, E: []api.E{one}, L: []api.T{{Op: api.ArmT, E: []api.E{one, one}, L: []api.T{set}}, {Op: api.ArmT}}}
	for k, s := range []struct {
		t     api.T
		nodes int
	}{{block, 1}, {set, 3}, {choice, 4}, {arms, 2 + 3 + 3 + 1}, {api.T{Op: api.BlockT, L: []api.T{choice, set}}, 8}} {
		for _, rest := range []int{0, 1} {
			n, left := 65536/s.nodes, 65536%s.nodes
			d := api.Flat{Signals: fewSignals(), Procs: []api.Proc{{L: repeated(s.t, n-100)}, {}, {L: append(repeated(s.t, 100), repeated(block, left+rest)...)}}}
			if _, err := sized.Size(d); err != api.Errno(rest)*api.ErrBound {
				t.Errorf("statement %d: %d nodes: error %d", k, 65536+rest, err)
			}
		}
	}
	for rest := range 2 {
		d := checked(turned(heap(15, one), 3), heap(14, one), turned(heap(14, one), rest))
		if _, err := sized.Size(d); err != api.Errno(rest)*api.ErrBound {
			t.Errorf("checks: error %d", err)
		}
		d = checked(repeated(one, 32768)...)
		d.Procs = []api.Proc{{Clocked: true, L: repeated(block, 32768)}, {L: repeated(block, rest)}}
		if _, err := sized.Size(d); err != api.Errno(rest)*api.ErrBound {
			t.Errorf("checks and processes: error %d", err)
		}
	}
	// That there are too many is told ahead of shapes.
	for _, at := range []int{0, 65535} {
		d := api.Flat{Signals: fewSignals(), Procs: []api.Proc{{L: repeated(block, 65536)}}}
		d.Procs[0].L[at].E = []api.E{{}}
		failsAll(t, "statements", d, api.ErrBound)
		d.Procs[0].L[at] = api.T{}
		failsAll(t, "statements", d, api.ErrArg)
		d.Procs[0].L = append(d.Procs[0].L, block)
		failsAll(t, "statements", d, api.ErrBound)
	}
	failsAll(t, "checks", checked(repeated(api.E{}, 65537)...), api.ErrBound)
	failsAll(t, "checks", checked(repeated(api.E{}, 65536)...), api.ErrArg)
	failsAll(t, "parts of what has none", checked(api.E{Op: api.NumE, L: repeated(one, 65536)}), api.ErrBound)
	failsAll(t, "parts of what has none", checked(api.E{Op: api.NumE, L: repeated(one, 65535)}), api.ErrArg)
	failsAll(t, "statements of what has none", api.Flat{Procs: []api.Proc{{L: []api.T{{Op: api.AssignT, L: repeated(block, 65536)}}}}}, api.ErrBound)
	failsAll(t, "statements of what has none", api.Flat{Procs: []api.Proc{{L: []api.T{{Op: api.AssignT, L: repeated(block, 65535)}}}}}, api.ErrArg)
}

// TestDepthOfADesign: statements and expressions stand one within the other.
func TestDepthOfADesign(t *testing.T) {
	one := number(1, 1)
	within := func(s api.T, times int, around func(s api.T) api.T) api.Flat {
		for range times {
			s = around(s)
		}
		return api.Flat{Signals: fewSignals(), Procs: []api.Proc{{}, {L: []api.T{{Op: api.BlockT}, s}}}}
	}
	block := func(l ...api.T) api.T { return api.T{Op: api.BlockT, L: l} }
	set := func(deep int) api.T {
		return api.T{Op: api.AssignT, Sig: 1, E: []api.E{turned(one, deep)}}
	}
	for k, deep := range []struct {
		d     func(rest int) api.Flat
		fault api.Errno
	}{
		{func(rest int) api.Flat { return within(block(), 63+rest, func(s api.T) api.T { return block(s) }) }, api.OK},
		{func(rest int) api.Flat { return within(set(0), 62+rest, func(s api.T) api.T { return block(s) }) }, api.OK},
		{func(rest int) api.Flat { return within(set(62+rest), 0, nil) }, api.OK},
		{func(rest int) api.Flat { return within(set(20), 42+rest, func(s api.T) api.T { return block(s) }) }, api.OK},
		{func(rest int) api.Flat {
			return within(set(rest), 31, func(s api.T) api.T {
				return api.T{Op: api.IfT, E: []api.E{one}, L: []api.T{block(), block(s)}}
			})
		}, api.OK},
		{func(rest int) api.Flat {
			return within(set(rest), 31, func(s api.T) api.T {
				return api.T{Op: api.CaseT, E: []api.E{one}, L: []api.T{{Op: api.ArmT, E: []api.E{one}, L: []api.T{s}}, {Op: api.ArmT}}}
			})
		}, api.OK},
		{func(rest int) api.Flat { return checked(one, turned(one, 63+rest)) }, api.OK},
		{func(rest int) api.Flat {
			return within(api.T{Op: api.IfT, E: []api.E{turned(one, 62+rest)}, L: []api.T{block(), block()}}, 0, nil)
		}, api.OK},
		{func(rest int) api.Flat { return within(api.T{}, 63+rest, func(s api.T) api.T { return block(s) }) }, api.ErrArg},
		{func(rest int) api.Flat { return checked(turned(api.E{}, 63+rest)) }, api.ErrArg},
		{func(rest int) api.Flat {
			return within(api.T{Op: api.ArmT, E: []api.E{turned(one, 62+rest)}}, 0, nil)
		}, api.ErrArg},
	} {
		if _, err := sized.Size(deep.d(0)); err != deep.fault {
			t.Errorf("design %d, 64 deep: error %d", k, err)
		}
		for _, rest := range []int{1, 2, 40, 60000} {
			if _, err := sized.Size(deep.d(rest)); err != api.ErrBound {
				t.Errorf("design %d, %d deep: error %d", k, 64+rest, err)
			}
		}
	}
}

// TestWithoutEnd: a design's limits are asked first, so that what has no end is told, too.
func TestWithoutEnd(t *testing.T) {
	e := endless()
	failsAll(t, "a check", checked(e[0]), api.ErrBound)
	s := []api.T{{Op: api.BlockT}}
	s[0].L = s
	failsAll(t, "a process", api.Flat{Procs: []api.Proc{{L: s}}}, api.ErrBound)
	failsAll(t, "a value", api.Flat{Procs: []api.Proc{{L: []api.T{{Op: api.AssignT, E: e}}}}}, api.ErrBound)
	shared := number(1, 1)
	for range 60 {
		shared = of(api.BinE, api.AndO, shared, shared)
	}
	failsAll(t, "a check", checked(shared), api.ErrBound)
	if err := sized.Check(checked(shared)); err != api.ErrBound {
		t.Errorf("Check: error %d", err)
	}
}

// TestManyWidthsWithinWidths: own widths are asked again at each level, and yet come soon.
func TestManyWidthsWithinWidths(t *testing.T) {
	e := number(0, 1)
	for range 15 {
		e = of(api.CondE, 0, number(0, 1), of(api.BinE, api.AddO, e, number(0, 1)), e)
	}
	e = turned(e, 64-31)
	d := checked()
	got, err := sized.Expr(d, e, 0)
	if err != api.ErrBound {
		t.Errorf("width %d, error %d", got.W, err)
	}
	e = number(0, 1)
	for range 12 {
		e = of(api.CondE, 0, number(0, 1), of(api.BinE, api.AddO, e, number(0, 1)), e)
	}
	got, err = sized.Expr(d, turned(e, 64-25), 0)
	if err != api.OK || got.W != 32 || sized.CheckE(d, got) != api.OK {
		t.Errorf("width %d, error %d", got.W, err)
	}
	compared := number(0, 1)
	for range 63 {
		compared = of(api.BinE, api.EqO, compared, number(0, 1))
	}
	got, err = sized.Expr(d, compared, 0)
	if err != api.OK || got.W != 1 || got.L[1].W != 1 {
		t.Errorf("comparisons: error %d", err)
	}
}
