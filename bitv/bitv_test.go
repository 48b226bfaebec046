package bitv_test

import (
	"math"
	"math/big"
	"slices"
	"testing"

	"filigree/api"
	"filigree/bitv"
)

func b(w int, v uint64) api.Bits { return api.Bits{W: w, V: v} }

// expect holds an answer against what is wanted; where nothing is, that is ErrArg and the value zero.
func expect(t *testing.T, got api.Bits, e api.Errno, want api.Bits, ok bool, what ...any) {
	t.Helper()
	wantE := api.OK
	if !ok {
		want, wantE = api.Bits{}, api.ErrArg
	}
	if got != want || e != wantE {
		t.Fatalf("%v: got %v, error %d, want %v, error %d", what, got, e, want, wantE)
	}
}

func TestMask(t *testing.T) {
	for w := -70; w <= 140; w++ {
		want := uint64(0)
		for i := 0; i < w && i < 64; i++ {
			want = want*2 + 1
		}
		if got := bitv.Mask(w); got != want {
			t.Errorf("Mask(%d) = %x, want %x", w, got, want)
		}
	}
	for w, want := range map[int]uint64{math.MinInt: 0, -1 << 40: 0, 1 << 32: math.MaxUint64, 1<<32 + 3: math.MaxUint64, math.MaxInt: math.MaxUint64} {
		if got := bitv.Mask(w); got != want {
			t.Errorf("Mask(%d) = %x, want %x", w, got, want)
		}
	}
}

func TestCheck(t *testing.T) {
	for w := 1; w <= api.MaxWidth; w++ {
		for _, v := range []uint64{0, 1, most(w) / 2, most(w) - 1, most(w)} {
			if e := bitv.Check(b(w, v)); e != api.OK {
				t.Errorf("Check(%d, %d) = %d", w, v, e)
			}
		}
		if w == api.MaxWidth {
			continue
		}
		for _, v := range []uint64{most(w) + 1, most(w) + 2, 1 << 63, math.MaxUint64} {
			if e := bitv.Check(b(w, v)); e != api.ErrArg {
				t.Errorf("Check(%d, %d) = %d", w, v, e)
			}
		}
	}
	for _, a := range wrongValues() {
		if e := bitv.Check(a); e != api.ErrArg {
			t.Errorf("Check(%v) = %d", a, e)
		}
	}
}

func TestUn(t *testing.T) {
	for _, op := range ops() {
		for _, a := range allValues() {
			want, ok := modelUn(op, a)
			got, e := bitv.Un(op, a)
			expect(t, got, e, want, ok, "Un", op, a)
		}
		for _, a := range wrongValues() {
			got, e := bitv.Un(op, a)
			expect(t, got, e, api.Bits{}, false, "Un", op, a)
		}
	}
}

func TestUnWrittenOut(t *testing.T) {
	for _, x := range []struct {
		op      int
		a, want api.Bits
	}{
		{api.NotO, b(4, 9), b(4, 6)}, {api.NotO, b(64, 0), b(64, math.MaxUint64)}, {api.NotO, b(1, 1), b(1, 0)},
		{api.NegO, b(4, 9), b(4, 7)}, {api.NegO, b(4, 8), b(4, 8)}, {api.NegO, b(8, 0), b(8, 0)}, {api.NegO, b(64, 1), b(64, math.MaxUint64)},
		{api.AllO, b(4, 15), b(1, 1)}, {api.AllO, b(4, 14), b(1, 0)}, {api.AllO, b(64, math.MaxUint64-1), b(1, 0)}, {api.AllO, b(1, 1), b(1, 1)},
		{api.AnyO, b(4, 0), b(1, 0)}, {api.AnyO, b(64, 1<<63), b(1, 1)}, {api.AnyO, b(1, 1), b(1, 1)},
		{api.OddO, b(4, 7), b(1, 1)}, {api.OddO, b(4, 15), b(1, 0)}, {api.OddO, b(4, 0), b(1, 0)}, {api.OddO, b(64, 1<<63), b(1, 1)},
		{api.NoO, b(1, 0), b(1, 1)}, {api.NoO, b(1, 1), b(1, 0)},
	} {
		got, e := bitv.Un(x.op, x.a)
		expect(t, got, e, x.want, true, "Un", x.op, x.a)
	}
	for _, a := range []api.Bits{b(2, 0), b(2, 1), b(64, 1)} {
		got, e := bitv.Un(api.NoO, a)
		expect(t, got, e, api.Bits{}, false, "NoO wants one bit", a)
	}
}

func TestBin(t *testing.T) {
	for _, op := range ops() {
		for _, w := range widths() {
			for _, x := range values(w) {
				for _, y := range values(w) {
					want, ok := modelBin(op, x, y)
					got, e := bitv.Bin(op, x, y)
					expect(t, got, e, want, ok, "Bin", op, x, y)
				}
			}
		}
	}
}

func TestBinOfOtherWidths(t *testing.T) {
	for _, op := range ops() {
		for _, x := range allValues() {
			for _, y := range allValues() {
				if x.W == y.W {
					continue
				}
				want, ok := modelBin(op, x, y)
				got, e := bitv.Bin(op, x, y)
				expect(t, got, e, want, ok, "Bin", op, x, y)
			}
		}
	}
}

func TestBinOfWrongValues(t *testing.T) {
	for _, op := range ops() {
		for _, bad := range wrongValues() {
			for _, good := range []api.Bits{b(1, 1), b(4, 9), b(64, math.MaxUint64), bad} {
				got, e := bitv.Bin(op, bad, good)
				expect(t, got, e, api.Bits{}, false, "Bin", op, bad, good)
				got, e = bitv.Bin(op, good, bad)
				expect(t, got, e, api.Bits{}, false, "Bin", op, good, bad)
			}
		}
	}
}

func TestBinWrittenOut(t *testing.T) {
	for _, x := range []struct {
		op         int
		a, b, want api.Bits
	}{
		{api.AndO, b(4, 12), b(4, 10), b(4, 8)}, {api.OrO, b(4, 12), b(4, 10), b(4, 14)}, {api.XorO, b(4, 12), b(4, 10), b(4, 6)},
		{api.AddO, b(4, 9), b(4, 8), b(4, 1)}, {api.AddO, b(8, 200), b(8, 100), b(8, 44)}, {api.AddO, b(64, math.MaxUint64), b(64, 1), b(64, 0)}, {api.AddO, b(1, 1), b(1, 1), b(1, 0)},
		{api.SubO, b(4, 1), b(4, 2), b(4, 15)}, {api.SubO, b(64, 0), b(64, 1), b(64, math.MaxUint64)}, {api.SubO, b(8, 200), b(8, 100), b(8, 100)},
		{api.MulO, b(4, 5), b(4, 7), b(4, 3)}, {api.MulO, b(64, 1<<32), b(64, 1<<32), b(64, 0)}, {api.MulO, b(64, math.MaxUint64), b(64, math.MaxUint64), b(64, 1)},
		{api.ShlO, b(4, 9), b(2, 1), b(4, 2)}, {api.ShlO, b(4, 9), b(2, 3), b(4, 8)}, {api.ShlO, b(64, 1), b(6, 63), b(64, 1<<63)}, {api.ShlO, b(64, 1), b(7, 64), b(64, 0)},
		{api.ShrO, b(4, 9), b(2, 1), b(4, 4)}, {api.ShrO, b(4, 9), b(2, 3), b(4, 1)}, {api.ShrO, b(64, 1<<63), b(6, 63), b(64, 1)}, {api.ShrO, b(64, math.MaxUint64), b(7, 64), b(64, 0)},
		{api.EqO, b(4, 9), b(4, 9), b(1, 1)}, {api.NeO, b(4, 9), b(4, 8), b(1, 1)}, {api.LtO, b(4, 7), b(4, 8), b(1, 1)}, {api.LtO, b(64, 1), b(64, 1<<63), b(1, 1)}, {api.LeO, b(4, 8), b(4, 8), b(1, 1)},
		{api.GtO, b(4, 8), b(4, 7), b(1, 1)}, {api.GtO, b(64, 1<<63), b(64, 1), b(1, 1)}, {api.GeO, b(4, 7), b(4, 8), b(1, 0)}, {api.GeO, b(4, 8), b(4, 8), b(1, 1)},
		{api.BothO, b(1, 1), b(1, 1), b(1, 1)}, {api.BothO, b(1, 1), b(1, 0), b(1, 0)}, {api.OneO, b(1, 0), b(1, 1), b(1, 1)}, {api.OneO, b(1, 0), b(1, 0), b(1, 0)},
	} {
		got, e := bitv.Bin(x.op, x.a, x.b)
		expect(t, got, e, x.want, true, "Bin", x.op, x.a, x.b)
	}
}

func TestShiftsByAnyNumber(t *testing.T) {
	by := []uint64{0, 1, 2, 3, 30, 31, 32, 33, 61, 62, 63, 64, 65, 127, 128, 255, 256, 1 << 31, 1 << 32, 1<<32 + 1, 1 << 63, 1<<63 + 1, math.MaxUint64 - 1, math.MaxUint64}
	for _, a := range allValues() {
		for _, n := range append(by, uint64(a.W)-1, uint64(a.W), uint64(a.W)+1) {
			for w := max(1, num(n).BitLen()); w <= api.MaxWidth; w += 7 {
				for _, op := range []int{api.ShlO, api.ShrO} {
					got, e := bitv.Bin(op, a, b(w, n))
					expect(t, got, e, modelShift(op, a, b(w, n)), true, "Bin", op, a, b(w, n))
				}
			}
		}
	}
}

func TestCond(t *testing.T) {
	for _, x := range allValues() {
		for _, y := range allValues() {
			for c, want := range map[api.Bits]api.Bits{b(1, 1): x, b(1, 0): y} {
				got, e := bitv.Cond(c, x, y)
				expect(t, got, e, want, x.W == y.W, "Cond", c, x, y)
			}
		}
	}
	for _, c := range []api.Bits{b(2, 0), b(2, 1), b(64, 1)} {
		got, e := bitv.Cond(c, b(4, 1), b(4, 2))
		expect(t, got, e, api.Bits{}, false, "Cond wants one bit", c)
	}
	for _, bad := range wrongValues() {
		for _, x := range [][3]api.Bits{{bad, b(4, 1), b(4, 2)}, {b(1, 0), bad, b(4, 2)}, {b(1, 1), b(4, 1), bad}, {b(1, 0), bad, bad}, {b(1, 1), bad, bad}, {b(1, 0), bad, b(bad.W, 0)}, {b(1, 1), b(bad.W, 0), bad}} {
			got, e := bitv.Cond(x[0], x[1], x[2])
			expect(t, got, e, api.Bits{}, false, "Cond", x)
		}
	}
}

func TestCat(t *testing.T) {
	single := slices.Repeat([]api.Bits{b(1, 1)}, 64)
	for _, x := range []struct {
		l    []api.Bits
		want api.Bits
		e    api.Errno
	}{
		{nil, b(0, 0), api.ErrArg}, {[]api.Bits{}, b(0, 0), api.ErrArg},
		{[]api.Bits{b(3, 5)}, b(3, 5), api.OK}, {[]api.Bits{b(64, 1<<63+1)}, b(64, 1<<63+1), api.OK},
		{[]api.Bits{b(2, 2), b(3, 5)}, b(5, 21), api.OK}, {[]api.Bits{b(3, 5), b(2, 2)}, b(5, 22), api.OK}, {[]api.Bits{b(1, 1), b(2, 0), b(3, 1), b(1, 0)}, b(7, 66), api.OK},
		{[]api.Bits{b(63, 0), b(1, 1)}, b(64, 1), api.OK}, {[]api.Bits{b(1, 1), b(63, 0)}, b(64, 1<<63), api.OK}, {single, b(64, math.MaxUint64), api.OK},
		{[]api.Bits{b(64, 1), b(1, 1)}, b(0, 0), api.ErrBound}, {[]api.Bits{b(1, 1), b(64, 1)}, b(0, 0), api.ErrBound}, {[]api.Bits{b(33, 0), b(32, 0)}, b(0, 0), api.ErrBound}, {append(single, b(1, 1)), b(0, 0), api.ErrBound}, {slices.Repeat([]api.Bits{b(64, 7)}, 4096), b(0, 0), api.ErrBound},
	} {
		if got, e := bitv.Cat(x.l...); got != x.want || e != x.e {
			t.Errorf("Cat(%v) = %v, %d, want %v, %d", x.l, got, e, x.want, x.e)
		}
	}
}

func TestCatOfWrongValues(t *testing.T) {
	for _, bad := range wrongValues() {
		// Those of too many bits, too: what may not be is told ahead of what is too much.
		for _, l := range [][]api.Bits{{bad}, {bad, b(1, 1)}, {b(1, 1), bad}, {b(1, 1), bad, b(1, 0)}, {bad, b(64, 1), b(64, 1)}, {b(64, 1), b(64, 1), bad}, {bad, bad}} {
			got, e := bitv.Cat(l...)
			expect(t, got, e, api.Bits{}, false, "Cat", l)
		}
	}
}

func TestCatLeavesItsList(t *testing.T) {
	l := []api.Bits{b(2, 2), b(3, 5), b(4, 9)}
	was := slices.Clone(l)
	got, e := bitv.Cat(l...)
	expect(t, got, e, b(9, 2*128+5*16+9), true, "Cat", l)
	if !slices.Equal(l, was) {
		t.Error("Cat changed its list", l)
	}
	l[0] = b(1, 0)
	expect(t, got, e, b(9, 2*128+5*16+9), true, "Cat, when its list is written into", l)
}

func TestExt(t *testing.T) {
	widths := []int{math.MinInt, -1 << 32, -64, 128, 1<<32 + 8, math.MaxInt}
	for w := -3; w <= 70; w++ {
		widths = append(widths, w)
	}
	for _, op := range ops() {
		for _, a := range allValues() {
			for _, w := range widths {
				want, ok := modelExt(op, w, a)
				got, e := bitv.Ext(op, w, a)
				expect(t, got, e, want, ok, "Ext", op, w, a)
			}
		}
		for _, a := range wrongValues() {
			for _, w := range []int{1, 8, 64, a.W} {
				got, e := bitv.Ext(op, w, a)
				expect(t, got, e, api.Bits{}, false, "Ext", op, w, a)
			}
		}
	}
}

func TestExtWrittenOut(t *testing.T) {
	for _, x := range []struct {
		op, w   int
		a, want api.Bits
	}{
		{api.ZextO, 6, b(3, 5), b(6, 5)}, {api.ZextO, 3, b(3, 5), b(3, 5)}, {api.ZextO, 64, b(63, 1<<62), b(64, 1<<62)}, {api.ZextO, 64, b(64, math.MaxUint64), b(64, math.MaxUint64)},
		{api.SextO, 6, b(3, 5), b(6, 61)}, {api.SextO, 6, b(3, 3), b(6, 3)}, {api.SextO, 3, b(3, 5), b(3, 5)}, {api.SextO, 64, b(1, 1), b(64, math.MaxUint64)}, {api.SextO, 64, b(64, 1<<63), b(64, 1<<63)}, {api.SextO, 64, b(63, 1<<62), b(64, 3<<62)},
		{api.CutO, 2, b(3, 7), b(2, 3)}, {api.CutO, 3, b(3, 5), b(3, 5)}, {api.CutO, 1, b(64, 1<<63), b(1, 0)}, {api.CutO, 64, b(64, 1<<63), b(64, 1<<63)},
	} {
		got, e := bitv.Ext(x.op, x.w, x.a)
		expect(t, got, e, x.want, true, "Ext", x.op, x.w, x.a)
	}
}

func TestSliceAndSet(t *testing.T) {
	for _, a := range allValues() {
		for lo := 0; lo < a.W; lo++ {
			for hi := lo; hi < a.W; hi++ {
				got, e := bitv.Slice(a, hi, lo)
				expect(t, got, e, modelSlice(a, hi, lo), true, "Slice", a, hi, lo)
				w := hi - lo + 1
				for _, part := range []api.Bits{b(w, 0), b(w, 1), b(w, most(w)), b(w, 0x9e3779b97f4a7c15&most(w))} {
					got, e := bitv.Set(a, hi, lo, part)
					expect(t, got, e, modelSet(a, hi, lo, part), true, "Set", a, hi, lo, part)
				}
			}
		}
	}
}

func TestSliceAndSetWhereThereAreNoBits(t *testing.T) {
	far := []int{math.MinInt, math.MinInt + 1, -65, -64, -2, -1, 0, 1, 2, 3, 4, 5, 7, 8, 9, 63, 64, 65, 1 << 32, math.MaxInt - 1, math.MaxInt}
	for _, a := range []api.Bits{b(1, 1), b(4, 9), b(8, 180), b(64, math.MaxUint64)} {
		for _, hi := range far {
			for _, lo := range far {
				if 0 <= lo && lo <= hi && hi < a.W {
					continue
				}
				got, e := bitv.Slice(a, hi, lo)
				expect(t, got, e, api.Bits{}, false, "Slice", a, hi, lo)
				for _, part := range []api.Bits{b(1, 1), b(2, 1), b(5, 1), b(a.W, 1)} {
					got, e = bitv.Set(a, hi, lo, part)
					expect(t, got, e, api.Bits{}, false, "Set", a, hi, lo, part)
				}
			}
		}
	}
}

func TestSetOfAnotherWidth(t *testing.T) {
	for _, a := range []api.Bits{b(1, 1), b(8, 180), b(64, 5)} {
		for _, x := range [][2]int{{0, 0}, {a.W - 1, 0}, {a.W - 1, a.W - 1}, {a.W / 2, a.W / 4}} {
			for w := 1; w <= api.MaxWidth; w++ {
				got, e := bitv.Set(a, x[0], x[1], b(w, 0))
				expect(t, got, e, modelSet(a, x[0], x[1], b(w, 0)), w == x[0]-x[1]+1, "Set", a, x, w)
			}
		}
	}
}

func TestSliceAndSetOfWrongValues(t *testing.T) {
	for _, bad := range wrongValues() {
		for _, x := range [][2]int{{0, 0}, {3, 0}, {63, 0}, {bad.W - 1, 0}, {bad.W - 1, bad.W - 1}} {
			got, e := bitv.Slice(bad, x[0], x[1])
			expect(t, got, e, api.Bits{}, false, "Slice", bad, x)
			got, e = bitv.Set(bad, x[0], x[1], b(max(1, min(64, x[0]-x[1]+1)), 0))
			expect(t, got, e, api.Bits{}, false, "Set", bad, x)
			got, e = bitv.Set(b(64, 5), x[0], x[1], bad)
			expect(t, got, e, api.Bits{}, false, "Set", x, bad)
		}
		if bad.W >= 1 && bad.W <= 64 {
			got, e := bitv.Set(b(64, 5), bad.W-1, 0, bad)
			expect(t, got, e, api.Bits{}, false, "Set of the right width", bad)
		}
	}
}

func TestSliceAndSetWrittenOut(t *testing.T) {
	for _, x := range []struct {
		a, part, slice, set api.Bits
		hi, lo              int
	}{
		{b(8, 180), b(4, 0), b(4, 13), b(8, 128), 5, 2}, {b(8, 180), b(8, 7), b(8, 180), b(8, 7), 7, 0}, {b(8, 180), b(1, 0), b(1, 1), b(8, 52), 7, 7}, {b(8, 180), b(1, 1), b(1, 0), b(8, 181), 0, 0}, {b(1, 1), b(1, 0), b(1, 1), b(1, 0), 0, 0},
		{b(64, 5), b(64, 9), b(64, 5), b(64, 9), 63, 0}, {b(64, 5), b(1, 1), b(1, 0), b(64, 1<<63+5), 63, 63}, {b(64, math.MaxUint64), b(63, 0), b(63, math.MaxInt64), b(64, 1), 63, 1}, {b(64, math.MaxUint64), b(63, 0), b(63, math.MaxInt64), b(64, 1<<63), 62, 0},
	} {
		got, e := bitv.Slice(x.a, x.hi, x.lo)
		expect(t, got, e, x.slice, true, "Slice", x.a, x.hi, x.lo)
		got, e = bitv.Set(x.a, x.hi, x.lo, x.part)
		expect(t, got, e, x.set, true, "Set", x.a, x.hi, x.lo, x.part)
	}
}

// may stops the test if an answer is an error, or may not be itself.
func may(t *testing.T) func(a api.Bits, e api.Errno) api.Bits {
	return func(a api.Bits, e api.Errno) api.Bits {
		t.Helper()
		if e != api.OK || bitv.Check(a) != api.OK {
			t.Fatalf("what is told may not be: %v, error %d", a, e)
		}
		return a
	}
}

func TestWhatIsToldMayBe(t *testing.T) {
	for _, a := range allValues() {
		for _, op := range ops() {
			if got, e := bitv.Un(op, a); e == api.OK {
				may(t)(got, e)
			}
			for _, c := range values(a.W) {
				if got, e := bitv.Bin(op, a, c); e == api.OK {
					may(t)(got, e)
				}
			}
			for w := 1; w <= api.MaxWidth; w++ {
				if got, e := bitv.Ext(op, w, a); e == api.OK {
					may(t)(got, e)
				}
			}
		}
	}
}

func TestRing(t *testing.T) {
	told := may(t)
	bin := func(op int, x, y api.Bits) api.Bits { return told(bitv.Bin(op, x, y)) }
	for _, w := range widths() {
		zero, unit := b(w, 0), b(w, 1)
		for _, x := range values(w) {
			neg := told(bitv.Un(api.NegO, x))
			same(t, told(bitv.Un(api.NotO, x)), bin(api.SubO, neg, unit))
			same(t, bin(api.AddO, x, neg), zero)
			same(t, bin(api.AddO, x, zero), x)
			same(t, bin(api.MulO, x, unit), x)
			for _, y := range values(w) {
				same(t, bin(api.AddO, x, y), bin(api.AddO, y, x))
				same(t, bin(api.MulO, x, y), bin(api.MulO, y, x))
				same(t, bin(api.SubO, x, y), bin(api.AddO, x, told(bitv.Un(api.NegO, y))))
				for _, z := range values(w) {
					same(t, bin(api.AddO, bin(api.AddO, x, y), z), bin(api.AddO, x, bin(api.AddO, y, z)))
					same(t, bin(api.MulO, bin(api.MulO, x, y), z), bin(api.MulO, x, bin(api.MulO, y, z)))
					same(t, bin(api.MulO, x, bin(api.AddO, y, z)), bin(api.AddO, bin(api.MulO, x, y), bin(api.MulO, x, z)))
				}
			}
		}
	}
}

func same(t *testing.T, got, want api.Bits) {
	t.Helper()
	if got != want {
		t.Fatalf("got %v, want %v", got, want)
	}
}

func TestPartsPutBehindEachOther(t *testing.T) {
	told := may(t)
	for _, a := range allValues() {
		var single []api.Bits
		for i := a.W - 1; i >= 0; i-- {
			single = append(single, told(bitv.Slice(a, i, i)))
		}
		same(t, told(bitv.Cat(single...)), a)
		for lo := 1; lo < a.W; lo++ {
			high, low := told(bitv.Slice(a, a.W-1, lo)), told(bitv.Slice(a, lo-1, 0))
			same(t, told(bitv.Cat(high, low)), a)
			same(t, low, told(bitv.Ext(api.CutO, lo, a)))
			other := told(bitv.Un(api.NotO, a))
			same(t, told(bitv.Set(told(bitv.Set(other, a.W-1, lo, high)), lo-1, 0, low)), a)
			same(t, told(bitv.Slice(told(bitv.Set(other, lo-1, 0, low)), lo-1, 0)), low)
		}
	}
}

func TestSignedNumbersKeepTheirWorth(t *testing.T) {
	told := may(t)
	for _, a := range allValues() {
		for w := a.W; w <= api.MaxWidth; w++ {
			same(t, told(bitv.Ext(api.CutO, a.W, told(bitv.Ext(api.SextO, w, a)))), a)
			same(t, told(bitv.Ext(api.CutO, a.W, told(bitv.Ext(api.ZextO, w, a)))), a)
			if got, want := worth(told(bitv.Ext(api.SextO, w, a))), worth(a); got.Cmp(want) != 0 {
				t.Fatalf("Ext(SextO, %d, %v) is worth %v, want %v", w, a, got, want)
			}
		}
	}
}

// worth is the number that a value is if its highest bit counts below 0.
func worth(a api.Bits) *big.Int {
	v := num(a.V)
	if v.Bit(a.W-1) == 1 {
		v.Sub(v, size(a.W))
	}
	return v
}
