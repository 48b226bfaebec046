package eval_test

import (
	"fmt"
	"math"
	"reflect"
	"testing"

	"filigree/api"
	"filigree/eval"
	"filigree/sized"
)

// refused wants that all calls tell ErrArg of an expression, and nothing else.
func refused(t *testing.T, what any, d api.Flat, v []uint64, e api.E) {
	t.Helper()
	if got, err := eval.Eval(d, v, e); err != api.ErrArg || got != 0 {
		t.Errorf("%v: Eval tells %d, error %d", what, got, err)
	}
	if got, err := eval.Fold(d, e); err != api.ErrArg || !reflect.DeepEqual(got, api.E{}) {
		t.Errorf("%v: Fold tells %s, error %d", what, show(d, got), err)
	}
	if got, err := eval.Needs(d, e); err != api.ErrArg || len(got) > 0 {
		t.Errorf("%v: Needs tells %d, error %d", what, got, err)
	}
}

// TestDesignsThatAreNotSized: no call tells anything of a design that is not, even if nothing is wrong with the expression.
func TestDesignsThatAreNotSized(t *testing.T) {
	signal := func(s api.Signal) func(*api.Flat) {
		return func(d *api.Flat) { d.Signals[8] = s }
	}
	for what, spoil := range map[string]func(d *api.Flat){
		"no name":              signal(api.Signal{W: 4, Kind: api.RegK}),
		"a name twice":         signal(api.Signal{Name: "a", W: 4, Kind: api.RegK}),
		"W 0":                  signal(api.Signal{Name: "q", Kind: api.RegK}),
		"W 65":                 signal(api.Signal{Name: "q", W: 65, Kind: api.RegK}),
		"W below 0":            signal(api.Signal{Name: "q", W: -1, Kind: api.RegK}),
		"the least W":          signal(api.Signal{Name: "q", W: math.MinInt, Kind: api.RegK}),
		"the greatest W":       signal(api.Signal{Name: "q", W: math.MaxInt, Kind: api.RegK}),
		"no kind":              signal(api.Signal{Name: "q", W: 4}),
		"kind 5":               signal(api.Signal{Name: "q", W: 4, Kind: 5}),
		"Init that is great":   signal(api.Signal{Name: "q", W: 4, Kind: api.RegK, Init: 16}),
		"Init of an input":     func(d *api.Flat) { d.Signals[0].Init = 1 },
		"a value of no width":  func(d *api.Flat) { d.Procs[0].L[0].E[0].W = 0 },
		"a part of no width":   func(d *api.Flat) { d.Procs[0].L[0].E[0].L[1].W = 0 },
		"another width":        func(d *api.Flat) { d.Procs[0].L[0].E[0].W = 7 },
		"a target of an input": func(d *api.Flat) { d.Procs[0].L[0].Sig, d.Procs[0].L[0].Hi = 1, 7 },
		"a process that ticks": func(d *api.Flat) { d.Procs[0].Clocked = true },
		"no statement":         func(d *api.Flat) { d.Procs[1].L = append(d.Procs[1].L, api.T{}) },
		"an arm alone":         func(d *api.Flat) { d.Procs[1].L = append(d.Procs[1].L, api.T{Op: api.ArmT}) },
		"a check of 4 bits":    func(d *api.Flat) { d.Checks[0].E = bitsOf(0, 3, 0) },
		"a check of no width":  func(d *api.Flat) { d.Checks[0].E.W = 0 },
		"a check of nothing":   func(d *api.Flat) { d.Checks = append(d.Checks, api.Check{Name: "c"}) },
		"many processes":       func(d *api.Flat) { d.Procs = append(d.Procs, make([]api.Proc, 1025)...) },
		"many nodes": func(d *api.Flat) {
			d.Procs = append(d.Procs, api.Proc{L: []api.T{{Op: api.BlockT, L: blocks(65536)}}})
		},
		"a deep process": func(d *api.Flat) {
			d.Procs = append(d.Procs, api.Proc{L: deepBlocks(65)})
		},
	} {
		d := base(t)
		spoil(&d)
		v := make([]uint64, len(d.Signals))
		if err := eval.Values(d, v); err != api.ErrArg {
			t.Errorf("%s: Values tells error %d", what, err)
		}
		for _, e := range []api.E{num(1, 1), bitsOf(0, 3, 0), at(0, bitsOf(2, 2, 0))} {
			refused(t, what, d, v, e)
		}
	}
	d := laid(t, `assign y=b+1;`)
	refused(t, "widths that are not told", d, make([]uint64, len(d.Signals)), num(1, 1))
}

func blocks(n int) []api.T {
	l := make([]api.T, n)
	for k := range l {
		l[k].Op = api.BlockT
	}
	return l
}

func deepBlocks(n int) []api.T {
	var l []api.T
	for range n {
		l = []api.T{{Op: api.BlockT, L: l}}
	}
	return l
}

// TestSignalsThatAreTooMany: of signals there are so many at most, and of their bits.
func TestSignalsThatAreTooMany(t *testing.T) {
	for _, c := range []struct {
		signals, w int
		want       api.Errno
	}{{512, 1, api.OK}, {512, 8, api.OK}, {513, 1, api.ErrArg}, {64, 64, api.OK}, {65, 64, api.ErrArg}, {512, 9, api.ErrArg}} {
		var d api.Flat
		for k := range c.signals {
			d.Signals = append(d.Signals, api.Signal{Name: fmt.Sprint("s", k), W: c.w, Kind: api.InK})
		}
		v := make([]uint64, c.signals)
		if err := eval.Values(d, v); err != c.want {
			t.Errorf("%d signals of %d bits: error %d", c.signals, c.w, err)
		}
		last := bitsOf(c.signals-1, c.w-1, c.w-1)
		if c.want != api.OK {
			refused(t, fmt.Sprint(c.signals, " signals of ", c.w), d, v, last)
			continue
		}
		v[c.signals-1] = 1 << (c.w - 1)
		is(t, d, v, last, 1)
		folds(t, d, at(c.signals-1, num(6, uint64(c.w-1))), show(d, last))
		needs(t, d, last, c.signals*c.w-1)
	}
}

// TestValuesThatAreNone: Eval tells nothing of them; the other calls ask for none.
func TestValuesThatAreNone(t *testing.T) {
	d := base(t)
	for k, v := range map[string][]uint64{
		"none": nil, "one too few": values()[:8], "one too many": append(values(), 0),
		"the first one too great": {16, 0, 0, 0, 0, 0, 0, 0, 0}, "the last one too great": {0, 0, 0, 0, 0, 0, 0, 0, 16}, "a bit too great": {0, 0, 0, 2, 0, 0, 0, 0, 0},
	} {
		for _, e := range []api.E{num(1, 1), bitsOf(2, 2, 0)} {
			if got, err := eval.Eval(d, v, e); err != api.ErrArg || got != 0 {
				t.Errorf("%s: %d, error %d", k, got, err)
			}
			if err := eval.Values(d, v); err != api.ErrArg {
				t.Errorf("%s: error %d", k, err)
			}
		}
	}
}

// TestExpressionsThatDoNotFit: whatever sized tells of them, the error is ErrArg.
func TestExpressionsThatDoNotFit(t *testing.T) {
	d := base(t)
	a, b, k := bitsOf(0, 3, 0), bitsOf(1, 7, 0), bitsOf(3, 0, 0)
	found := map[api.Errno]int{}
	for n, e := range []api.E{
		{}, {Op: 9}, {Op: -1}, {Op: math.MaxInt},
		{Op: api.NumE}, {Op: api.NumE, V: 5}, num(-1, 0), num(65, 0), num(math.MaxInt, 0), num(math.MinInt, 0), num(4, 16), num(1, 2), num(63, math.MaxUint64),
		{Op: api.NumE, W: 4, N: 1}, {Op: api.NumE, W: 4, Sig: 1}, {Op: api.NumE, W: 4, Hi: 1}, {Op: api.NumE, W: 4, Lo: 1}, of(api.NumE, 0, 4, num(4, 1)),
		{Op: api.SigE, Hi: 3}, {Op: api.SigE, W: 5, Hi: 3}, {Op: api.SigE, W: 3, Hi: 3}, {Op: api.SigE, W: -4, Hi: 3}, bitsOf(0, 4, 0), bitsOf(0, 4, 1), bitsOf(0, 0, -1), bitsOf(0, 1, 2), bitsOf(0, 2, 4), bitsOf(0, math.MaxInt, 0), bitsOf(0, math.MaxInt, math.MaxInt), bitsOf(9, 0, 0), bitsOf(-1, 0, 0), bitsOf(math.MaxInt, 0, 0), bitsOf(math.MinInt, 0, 0),
		{Op: api.SigE, W: 4, Hi: 3, V: 1}, {Op: api.SigE, W: 4, Hi: 3, N: 1}, {Op: api.SigE, W: 4, Hi: 3, L: []api.E{a}},
		at(9, a), at(-1, a), {Op: api.IndexE, W: 1}, {Op: api.IndexE, W: 1, L: []api.E{a, a}}, {Op: api.IndexE, W: 2, L: []api.E{a}}, {Op: api.IndexE, L: []api.E{a}}, {Op: api.IndexE, W: 1, Hi: 1, L: []api.E{a}}, {Op: api.IndexE, W: 1, Lo: 1, L: []api.E{a}}, {Op: api.IndexE, W: 1, N: 1, L: []api.E{a}}, {Op: api.IndexE, W: 1, V: 1, L: []api.E{a}}, at(0, api.E{Op: api.NumE, V: 3}), at(0, api.E{}),
		of(api.UnE, api.NotO, 4), of(api.UnE, api.NotO, 4, a, a), of(api.UnE, api.NotO, 4, b), of(api.UnE, api.NotO, 3, a), of(api.UnE, api.NotO, 0, a), of(api.UnE, 0, 4, a), of(api.UnE, 7, 4, a), of(api.UnE, -1, 4, a), of(api.UnE, api.AllO, 4, a), of(api.UnE, api.AllO, 0, a), of(api.UnE, api.NoO, 1, a), of(api.UnE, api.NoO, 4, a),
		of(api.BinE, api.AddO, 4, a), of(api.BinE, api.AddO, 4, a, a, a), of(api.BinE, api.AddO, 4, a, b), of(api.BinE, api.AddO, 8, a, b), of(api.BinE, api.AddO, 8, a, a), of(api.BinE, api.AddO, 0, a, a), of(api.BinE, 10, 4, a, a), of(api.BinE, 27, 1, k, k), of(api.BinE, api.ShlO, 8, a, b), of(api.BinE, api.EqO, 1, a, b), of(api.BinE, api.EqO, 4, a, a), of(api.BinE, api.BothO, 1, a, a), of(api.BinE, api.BothO, 1, k, a), of(api.BinE, api.AddO, 4, a, api.E{Op: api.NumE, V: 1}),
		of(api.CondE, 0, 4, k, a), of(api.CondE, 0, 4, k, a, a, a), of(api.CondE, 0, 4, a, a, a), of(api.CondE, 0, 4, k, a, b), of(api.CondE, 0, 8, k, a, b), of(api.CondE, 0, 8, k, a, a), of(api.CondE, 1, 4, k, a, a),
		of(api.CatE, 0, 4), of(api.CatE, 0, 8, a), of(api.CatE, 0, 0, a), of(api.CatE, 0, 12, a, a), of(api.CatE, 0, 65, bitsOf(4, 63, 0), k), of(api.CatE, 0, 1, bitsOf(4, 63, 0), k), of(api.CatE, 0, 4, api.E{Op: api.NumE, V: 1}), of(api.CatE, 1, 4, a),
		of(api.ExtE, api.ZextO, 3, a), of(api.ExtE, api.SextO, 3, a), of(api.ExtE, api.CutO, 5, a), of(api.ExtE, api.ZextO, 0, a), of(api.ExtE, api.ZextO, 65, a), of(api.ExtE, 30, 4, a), of(api.ExtE, 34, 4, a), of(api.ExtE, api.ZextO, 8), of(api.ExtE, api.ZextO, 8, a, a),
		of(api.UnE, api.NotO, 4, of(api.UnE, api.NotO, 0, a)), of(api.BinE, api.AddO, 4, a, of(api.BinE, api.SubO, 5, a, a)), of(api.CondE, 0, 4, num(1, 1), a, num(4, 16)), of(api.CondE, 0, 4, num(1, 1), a, bitsOf(0, 4, 0)), of(api.CatE, 0, 5, a, at(0, of(api.CatE, 0, 4, b))),
	} {
		err := sized.CheckE(d, e)
		if err == api.OK {
			t.Errorf("%d: %s fits", n, show(d, e))
		}
		found[err]++
		refused(t, fmt.Sprint(n, " ", show(d, e)), d, values(), e)
	}
	for _, err := range []api.Errno{api.ErrArg, api.ErrSize, api.ErrBit} {
		if found[err] == 0 {
			t.Errorf("none of error %d", err)
		}
	}
}
