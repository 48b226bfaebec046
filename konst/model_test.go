package konst_test

import (
	"math/big"

	"filigree/api"
	"filigree/ast"
)

// modelEval says the chapter's sentences again, with numbers of any length.
func modelEval(x api.X, env []api.Named) (int, api.Errno) {
	if ast.CheckX(x) != api.OK {
		return 0, api.ErrArg
	}
	v, e := modelValue(x, env)
	if e != api.OK {
		return 0, e
	}
	return int(v.Int64()), api.OK
}

func modelLookup(env []api.Named, name string) (v int, ok bool) {
	for _, c := range env {
		if c.Name == name {
			v, ok = c.V, true
		}
	}
	return v, ok
}

// modelConstant wants a whole number that is the value of a constant.
func modelConstant(v *big.Int) (*big.Int, api.Errno) {
	if v.Sign() < 0 || v.BitLen() > 31 {
		return nil, api.ErrOver
	}
	return v, api.OK
}

func modelValue(x api.X, env []api.Named) (*big.Int, api.Errno) {
	switch x.Op {
	case api.NumX:
		if x.W != 0 {
			return nil, api.ErrKonst
		}
		return modelConstant(new(big.Int).SetUint64(x.V))
	case api.NameX:
		v, ok := modelLookup(env, x.Name)
		if !ok {
			return nil, api.ErrFree
		}
		return modelConstant(big.NewInt(int64(v)))
	case api.UnX, api.BinX, api.CondX:
		return modelOperation(x, env)
	}
	return nil, api.ErrKonst
}

func modelOperation(x api.X, env []api.Named) (*big.Int, api.Errno) {
	if x.Op == api.UnX && x.N != api.NoO || x.Op == api.BinX && x.N <= api.XorO {
		return nil, api.ErrKonst
	}
	a, e := modelValue(x.L[0], env)
	if e != api.OK {
		return nil, e
	}
	if x.Op == api.UnX {
		return modelTruth(a.Sign() == 0), api.OK
	}
	if x.Op == api.CondX {
		return modelValue(map[bool]api.X{true: x.L[1], false: x.L[2]}[a.Sign() > 0], env)
	}
	b, e := modelValue(x.L[1], env)
	if e != api.OK {
		return nil, e
	}
	return modelConstant(modelPair(x.N, a, b))
}

func modelTruth(so bool) *big.Int {
	if so {
		return big.NewInt(1)
	}
	return new(big.Int)
}

func modelPair(op int, a, b *big.Int) *big.Int {
	order, sum := a.Cmp(b), new(big.Int)
	switch op {
	case api.AddO:
		return sum.Add(a, b)
	case api.SubO:
		return sum.Sub(a, b)
	case api.MulO:
		return sum.Mul(a, b)
	case api.ShlO, api.ShrO:
		return modelMoved(op, a, b)
	case api.BothO:
		return modelTruth(a.Sign() > 0 && b.Sign() > 0)
	case api.OneO:
		return modelTruth(a.Sign() > 0 || b.Sign() > 0)
	}
	return modelTruth(map[int]bool{api.EqO: order == 0, api.NeO: order != 0, api.LtO: order < 0, api.LeO: order <= 0, api.GtO: order > 0, api.GeO: order >= 0}[op])
}

// modelMoved doubles, or halves, one time after the other, till what is left to do changes nothing: then it is 0, or above all constants, and stays so.
func modelMoved(op int, a, b *big.Int) *big.Int {
	two, v := big.NewInt(2), new(big.Int).Set(a)
	for n := int64(0); n < b.Int64() && n < 100; n++ {
		if op == api.ShlO {
			v.Mul(v, two)
		} else {
			v.Div(v, two)
		}
	}
	return v
}

func modelSubst(x api.X, env []api.Named) api.X {
	v, ok := modelLookup(env, x.Name)
	switch {
	case x.Op == api.NameX && ok && v >= 0 && v < 1<<31:
		return api.X{Op: api.NumX, V: uint64(v)}
	case x.Op == api.NameX:
		return x
	}
	y := x
	y.L = nil
	for _, part := range x.L {
		y.L = append(y.L, modelSubst(part, env))
	}
	return y
}
