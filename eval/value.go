package eval

import (
	"filigree/api"
	"filigree/bitv"
)

// cut is w bits of a signal's value, from the bit lo on.
func cut(v uint64, lo, w int) api.Bits {
	return api.Bits{W: w, V: v >> uint(lo) & bitv.Mask(w)}
}

// bitAt is one bit of a signal's value. Above the signal's bits its value has none, and Go moves in 0, however far it goes.
func bitAt(v, n uint64) api.Bits {
	return api.Bits{W: 1, V: v >> n & 1}
}

// made is what a number is, or an operation makes of its parts; of what is sized bitv tells no error.
func made(e api.E, parts []api.Bits) api.Bits {
	value := api.Bits{W: e.W, V: e.V}
	switch e.Op {
	case api.UnE:
		value, _ = bitv.Un(e.N, parts[0])
	case api.BinE:
		value, _ = bitv.Bin(e.N, parts[0], parts[1])
	case api.CondE:
		value, _ = bitv.Cond(parts[0], parts[1], parts[2])
	case api.CatE:
		value, _ = bitv.Cat(parts...)
	case api.ExtE:
		value, _ = bitv.Ext(e.N, e.W, parts[0])
	}
	return value
}
