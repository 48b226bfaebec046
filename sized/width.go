package sized

import (
	"math/bits"

	"filigree/api"
)

const (
	none  = 0  // the width of what has none
	usual = 32 // the width of what nothing gives one
)

// ownWidth is the width that an expression has of its own, or none.
func ownWidth(e api.E) int {
	switch e.Op {
	case api.NumE, api.ExtE:
		return e.W
	case api.SigE:
		return e.Hi - e.Lo + 1
	case api.UnE, api.BinE:
		return ownWidthOfOperation(e)
	case api.CondE:
		return ownWidthOfEither(e.L[1], e.L[2])
	case api.CatE:
		return ownWidthOfAll(e.L)
	}
	return 1
}

func ownWidthOfOperation(e api.E) int {
	switch e.N {
	case api.NotO, api.NegO, api.ShlO, api.ShrO:
		return ownWidth(e.L[0])
	case api.AndO, api.OrO, api.XorO, api.AddO, api.SubO, api.MulO:
		return ownWidthOfEither(e.L[0], e.L[1])
	}
	return 1
}

// ownWidthOfEither is the own width of the first one of two, or, if it has none, of the second one.
func ownWidthOfEither(a, b api.E) int {
	if w := ownWidth(a); w != none {
		return w
	}
	return ownWidth(b)
}

// ownWidthOfAll is how wide parts are, one behind the other, or none, if one of them has none.
func ownWidthOfAll(l []api.E) int {
	sum := 0
	for _, part := range l {
		w := ownWidth(part)
		if w == none {
			return none
		}
		sum += w
	}
	return sum
}

// orUsual is a width, or, if it is none, the usual one.
func orUsual(w int) int {
	if w == none {
		return usual
	}
	return w
}

// isWidth tells whether a value may have so many bits.
func isWidth(w int) bool {
	return 1 <= w && w <= api.MaxWidth
}

// holds tells whether w bits hold a number.
func holds(w int, v uint64) bool {
	return bits.Len64(v) <= w
}
