package bitv_test

import (
	"math"
	"math/big"

	"filigree/api"
)

// The model works all out with numbers of any length, so that it shares no width, no mask and no shift with the package.

var one = big.NewInt(1)

func num(v uint64) *big.Int { return new(big.Int).SetUint64(v) }

// size is 2 to the power w.
func size(w int) *big.Int { return new(big.Int).Lsh(one, uint(w)) }

// ring is the number of w bits that is v, round and round.
func ring(w int, v *big.Int) api.Bits {
	return api.Bits{W: w, V: new(big.Int).Mod(v, size(w)).Uint64()}
}

func bit(so bool) api.Bits {
	if so {
		return api.Bits{W: 1, V: 1}
	}
	return api.Bits{W: 1, V: 0}
}

// most is the greatest number of w bits.
func most(w int) uint64 { return new(big.Int).Sub(size(w), one).Uint64() }

func ones(a api.Bits) int {
	n := 0
	for i := 0; i < a.W; i++ {
		n += int(num(a.V).Bit(i))
	}
	return n
}

func modelUn(op int, a api.Bits) (api.Bits, bool) {
	switch op {
	case api.NotO:
		return ring(a.W, new(big.Int).Sub(num(most(a.W)), num(a.V))), true
	case api.NegO:
		return ring(a.W, new(big.Int).Neg(num(a.V))), true
	case api.AllO:
		return bit(ones(a) == a.W), true
	case api.AnyO:
		return bit(ones(a) > 0), true
	case api.OddO:
		return bit(ones(a)%2 == 1), true
	case api.NoO:
		return bit(a.V == 0), a.W == 1
	}
	return api.Bits{}, false
}

func modelBin(op int, a, b api.Bits) (api.Bits, bool) {
	x, y := num(a.V), num(b.V)
	if op == api.ShlO || op == api.ShrO {
		return modelShift(op, a, b), true
	}
	if a.W != b.W {
		return api.Bits{}, false
	}
	switch op {
	case api.AndO:
		return ring(a.W, new(big.Int).And(x, y)), true
	case api.OrO:
		return ring(a.W, new(big.Int).Or(x, y)), true
	case api.XorO:
		return ring(a.W, new(big.Int).Xor(x, y)), true
	case api.AddO:
		return ring(a.W, new(big.Int).Add(x, y)), true
	case api.SubO:
		return ring(a.W, new(big.Int).Sub(x, y)), true
	case api.MulO:
		return ring(a.W, new(big.Int).Mul(x, y)), true
	case api.BothO:
		return bit(a.V == 1 && b.V == 1), a.W == 1
	case api.OneO:
		return bit(a.V == 1 || b.V == 1), a.W == 1
	}
	return modelCompare(op, x.Cmp(y))
}

func modelShift(op int, a, b api.Bits) api.Bits {
	if b.V >= uint64(a.W) {
		return api.Bits{W: a.W}
	}
	if op == api.ShlO {
		return ring(a.W, new(big.Int).Lsh(num(a.V), uint(b.V)))
	}
	return ring(a.W, new(big.Int).Rsh(num(a.V), uint(b.V)))
}

func modelCompare(op, c int) (api.Bits, bool) {
	switch op {
	case api.EqO:
		return bit(c == 0), true
	case api.NeO:
		return bit(c != 0), true
	case api.LtO:
		return bit(c < 0), true
	case api.LeO:
		return bit(c <= 0), true
	case api.GtO:
		return bit(c > 0), true
	case api.GeO:
		return bit(c >= 0), true
	}
	return api.Bits{}, false
}

func modelExt(op, w int, a api.Bits) (api.Bits, bool) {
	v := num(a.V)
	switch {
	case w < 1 || w > 64:
		return api.Bits{}, false
	case op == api.ZextO && w >= a.W:
		return ring(w, v), true
	case op == api.SextO && w >= a.W:
		if v.Bit(a.W-1) == 1 {
			v.Sub(v, size(a.W))
		}
		return ring(w, v), true
	case op == api.CutO && w <= a.W:
		return ring(w, v), true
	}
	return api.Bits{}, false
}

// modelSet goes from bit to bit.
func modelSet(a api.Bits, hi, lo int, b api.Bits) api.Bits {
	v := num(a.V)
	for i := lo; i <= hi; i++ {
		v.SetBit(v, i, num(b.V).Bit(i-lo))
	}
	return ring(a.W, v)
}

func modelSlice(a api.Bits, hi, lo int) api.Bits {
	return ring(hi-lo+1, new(big.Int).Rsh(num(a.V), uint(lo)))
}

// widths are small ones and those at which machine words end.
func widths() []int { return []int{1, 2, 3, 4, 5, 8, 31, 32, 33, 62, 63, 64} }

// values are all values of a small width, else those near the ends, and some patterns.
func values(w int) []api.Bits {
	var l []api.Bits
	if w <= 3 {
		for v := uint64(0); v <= most(w); v++ {
			l = append(l, api.Bits{W: w, V: v})
		}
		return l
	}
	top := most(w)
	half := top/2 + 1
	for _, v := range []uint64{0, 1, 2, 3, uint64(w) - 1, half - 1, half, half + 1, top - 1, top, 0x5555555555555555 & top, 0xaaaaaaaaaaaaaaaa & top, 0x9e3779b97f4a7c15 & top, 0xc2b2ae3d27d4eb4f & top} {
		l = append(l, api.Bits{W: w, V: v})
	}
	return l
}

// allValues are those of all widths.
func allValues() []api.Bits {
	var l []api.Bits
	for _, w := range widths() {
		l = append(l, values(w)...)
	}
	return l
}

// wrongValues may not be.
func wrongValues() []api.Bits {
	return []api.Bits{
		{W: 0, V: 0}, {W: 0, V: 1}, {W: -1, V: 0}, {W: -64, V: 0}, {W: math.MinInt, V: 0}, {W: 65, V: 0}, {W: 65, V: math.MaxUint64}, {W: 66, V: 1}, {W: 128, V: 1}, {W: 1 << 32, V: 0}, {W: math.MaxInt, V: 0},
		{W: 1, V: 2}, {W: 1, V: 3}, {W: 1, V: math.MaxUint64}, {W: 4, V: 16}, {W: 8, V: 256}, {W: 32, V: 1 << 32}, {W: 63, V: 1 << 63}, {W: 63, V: math.MaxUint64},
	}
}

// ops are all numbers around the operations', and some far away.
func ops() []int {
	l := []int{math.MinInt, math.MinInt + 1, -1 << 32, 256 + api.NotO, 256 + api.AddO, 1<<32 + api.AddO, math.MaxInt}
	for op := -35; op <= 70; op++ {
		l = append(l, op)
	}
	return l
}
