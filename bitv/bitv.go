// Package bitv is layer 1: values of so many bits, and what can be done with them.
package bitv

import (
	"math/bits"

	"filigree/api"
)

// Check tells whether a value may be: its width is 1 to MaxWidth, and its number fits there.
func Check(a api.Bits) api.Errno {
	if a.W < 1 || a.W > api.MaxWidth || a.V > Mask(a.W) {
		return api.ErrArg
	}
	return api.OK
}

// Mask is the greatest number of w bits; no width is below 0 bits, or above 64.
func Mask(w int) uint64 {
	if w < 1 {
		return 0
	}
	// Of 64 bits 1 is moved out, and 0 less 1 goes round to all of them.
	return uint64(1)<<min(uint(w), 64) - 1
}

// Un does an operation of one operand.
func Un(op int, a api.Bits) (api.Bits, api.Errno) {
	if !mayBe(a) || op == api.NoO && a.W != 1 {
		return wrong()
	}
	switch op {
	case api.NotO, api.NoO:
		return keep(a.W, ^a.V)
	case api.NegO:
		return keep(a.W, -a.V)
	case api.AllO:
		return truth(a.V == Mask(a.W))
	case api.AnyO:
		return truth(a.V != 0)
	case api.OddO:
		return truth(bits.OnesCount64(a.V)%2 == 1)
	}
	return wrong()
}

// Bin does an operation of two operands.
func Bin(op int, a, b api.Bits) (api.Bits, api.Errno) {
	if !mayBe(a, b) {
		return wrong()
	}
	if move, ok := shift(op); ok {
		return keep(a.W, move(a.V, b.V))
	}
	if a.W != b.W {
		return wrong()
	}
	if work, ok := wordwise(op); ok {
		return keep(a.W, work(a.V, b.V))
	}
	if holds, ok := comparison(op); ok {
		return truth(holds(a.V, b.V))
	}
	if holds, ok := logic(op); ok && a.W == 1 {
		return truth(holds(a.V, b.V))
	}
	return wrong()
}

// Cond is a, if c is 1, else b.
func Cond(c, a, b api.Bits) (api.Bits, api.Errno) {
	if !mayBe(c, a, b) || c.W != 1 || a.W != b.W {
		return wrong()
	}
	if c.V == 1 {
		return a, api.OK
	}
	return b, api.OK
}

// Cat puts values one behind the other; the first one is the highest.
func Cat(l ...api.Bits) (api.Bits, api.Errno) {
	if len(l) == 0 || !mayBe(l...) {
		return wrong()
	}
	if fold(0, addWidth, l...) > api.MaxWidth {
		return api.Bits{}, api.ErrBound
	}
	return fold(api.Bits{}, putBehind, l...), api.OK
}

// Ext gives a value another width.
func Ext(op, w int, a api.Bits) (api.Bits, api.Errno) {
	if !mayBe(a) || w < 1 || w > api.MaxWidth {
		return wrong()
	}
	switch {
	case op == api.ZextO && w >= a.W:
		return keep(w, a.V)
	case op == api.SextO && w >= a.W:
		return keep(w, a.V|signs(a))
	case op == api.CutO && w <= a.W:
		return keep(w, a.V)
	}
	return wrong()
}

// Slice is the bits lo to hi of a value.
func Slice(a api.Bits, hi, lo int) (api.Bits, api.Errno) {
	if !mayBe(a) || !within(a, hi, lo) {
		return wrong()
	}
	return keep(hi-lo+1, a.V>>uint(lo))
}

// Set is a value whose bits lo to hi are those of another one.
func Set(a api.Bits, hi, lo int, b api.Bits) (api.Bits, api.Errno) {
	if !mayBe(a, b) || !within(a, hi, lo) || b.W != hi-lo+1 {
		return wrong()
	}
	hole := Mask(b.W) << uint(lo)
	return keep(a.W, a.V&^hole|b.V<<uint(lo))
}

// shift tells how an operation moves a number's bits; Go moves in 0, however far it goes.
func shift(op int) (func(x, by uint64) uint64, bool) {
	return pick(op, map[int]func(x, by uint64) uint64{
		api.ShlO: func(x, by uint64) uint64 { return x << by },
		api.ShrO: func(x, by uint64) uint64 { return x >> by },
	})
}

// wordwise tells what an operation makes of two numbers of the same width.
func wordwise(op int) (func(x, y uint64) uint64, bool) {
	return pick(op, map[int]func(x, y uint64) uint64{
		api.AndO: func(x, y uint64) uint64 { return x & y },
		api.OrO:  func(x, y uint64) uint64 { return x | y },
		api.XorO: func(x, y uint64) uint64 { return x ^ y },
		api.AddO: func(x, y uint64) uint64 { return x + y },
		api.SubO: func(x, y uint64) uint64 { return x - y },
		api.MulO: func(x, y uint64) uint64 { return x * y },
	})
}

// comparison tells what an operation asks of two numbers.
func comparison(op int) (func(x, y uint64) bool, bool) {
	return pick(op, map[int]func(x, y uint64) bool{
		api.EqO: func(x, y uint64) bool { return x == y },
		api.NeO: func(x, y uint64) bool { return x != y },
		api.LtO: func(x, y uint64) bool { return x < y },
		api.LeO: func(x, y uint64) bool { return x <= y },
		api.GtO: func(x, y uint64) bool { return x > y },
		api.GeO: func(x, y uint64) bool { return x >= y },
	})
}

// logic tells what an operation asks of two single bits.
func logic(op int) (func(x, y uint64) bool, bool) {
	return pick(op, map[int]func(x, y uint64) bool{
		api.BothO: func(x, y uint64) bool { return x&y == 1 },
		api.OneO:  func(x, y uint64) bool { return x|y == 1 },
	})
}

// pick looks an operation up in a table.
func pick[F any](op int, table map[int]F) (F, bool) {
	f, ok := table[op]
	return f, ok
}

// fold goes over parts from the first one on, and carries along what they have made so far.
func fold[P, R any](start R, step func(R, P) R, parts ...P) R {
	for _, part := range parts {
		start = step(start, part)
	}
	return start
}

// addWidth is a step of fold: how many bits there are.
func addWidth(sum int, a api.Bits) int {
	return sum + a.W
}

// putBehind is a step of fold: all bits so far are moved up by as many as come.
func putBehind(high, low api.Bits) api.Bits {
	return api.Bits{W: high.W + low.W, V: high.V<<uint(low.W) | low.V}
}

// mayBe tells whether all values may be.
func mayBe(l ...api.Bits) bool {
	return fold(true, func(so bool, a api.Bits) bool { return so && Check(a) == api.OK }, l...)
}

// within tells whether a value has the bits lo to hi.
func within(a api.Bits, hi, lo int) bool {
	return 0 <= lo && lo <= hi && hi < a.W
}

// signs is all bits above those of a value, if its highest one is 1, else none.
func signs(a api.Bits) uint64 {
	if a.V>>uint(a.W-1) == 0 {
		return 0
	}
	return ^Mask(a.W)
}

// keep is the lowest w bits of a number.
func keep(w int, v uint64) (api.Bits, api.Errno) {
	return api.Bits{W: w, V: v & Mask(w)}, api.OK
}

// truth is one bit: 1, if it is so.
func truth(so bool) (api.Bits, api.Errno) {
	if so {
		return api.Bits{W: 1, V: 1}, api.OK
	}
	return api.Bits{W: 1}, api.OK
}

// wrong is what is told where something may not be.
func wrong() (api.Bits, api.Errno) {
	return api.Bits{}, api.ErrArg
}
