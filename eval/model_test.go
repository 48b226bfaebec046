package eval_test

import (
	"math/big"
	"slices"

	"filigree/api"
)

// The model is the chapter's sentences, and those of chapter 1, of numbers of any length; an expression is gone through from above.

var one = big.NewInt(1)

// ring is the lowest w bits of a number; one below 0 goes round.
func ring(w int, n *big.Int) *big.Int {
	return n.Mod(n, new(big.Int).Lsh(one, uint(w)))
}

func flag(so bool) *big.Int {
	if so {
		return big.NewInt(1)
	}
	return big.NewInt(0)
}

func modelEval(d api.Flat, v []uint64, e api.E) *big.Int {
	signal := func() *big.Int { return new(big.Int).SetUint64(v[e.Sig]) }
	part := func(k int) *big.Int { return modelEval(d, v, e.L[k]) }
	switch e.Op {
	case api.NumE:
		return new(big.Int).SetUint64(e.V)
	case api.SigE:
		return ring(e.Hi-e.Lo+1, signal().Rsh(signal(), uint(e.Lo)))
	case api.IndexE:
		n := part(0)
		return flag(n.Cmp(big.NewInt(int64(d.Signals[e.Sig].W))) < 0 && signal().Bit(int(n.Int64())) == 1)
	case api.UnE:
		return modelUn(e, part(0))
	case api.BinE:
		return modelBin(e, part(0), part(1))
	case api.CondE:
		if part(0).Sign() != 0 {
			return part(1)
		}
		return part(2)
	case api.CatE:
		all := new(big.Int)
		for k := range e.L {
			all.Add(all.Lsh(all, uint(e.L[k].W)), part(k))
		}
		return all
	}
	n, from := part(0), e.L[0].W
	if e.N == api.SextO && n.Bit(from-1) == 1 {
		n.Sub(n, new(big.Int).Lsh(one, uint(from)))
	}
	return ring(e.W, n)
}

func modelUn(e api.E, a *big.Int) *big.Int {
	set := 0
	for k := range e.L[0].W {
		set += int(a.Bit(k))
	}
	switch e.N {
	case api.NotO:
		return ring(e.W, a.Sub(a.Neg(a), one))
	case api.NegO:
		return ring(e.W, a.Neg(a))
	case api.AllO:
		return flag(set == e.L[0].W)
	case api.AnyO:
		return flag(set > 0)
	case api.OddO:
		return flag(set%2 == 1)
	}
	return flag(set == 0)
}

func modelBin(e api.E, a, b *big.Int) *big.Int {
	switch e.N {
	case api.AndO:
		return a.And(a, b)
	case api.OrO:
		return a.Or(a, b)
	case api.XorO:
		return a.Xor(a, b)
	case api.AddO:
		return ring(e.W, a.Add(a, b))
	case api.SubO:
		return ring(e.W, a.Sub(a, b))
	case api.MulO:
		return ring(e.W, a.Mul(a, b))
	case api.BothO:
		return flag(a.Sign() != 0 && b.Sign() != 0)
	case api.OneO:
		return flag(a.Sign() != 0 || b.Sign() != 0)
	case api.ShlO, api.ShrO:
		return modelShift(e, a, b)
	}
	order := a.Cmp(b)
	holds := map[int]bool{api.EqO: order == 0, api.NeO: order != 0, api.LtO: order < 0, api.LeO: order <= 0, api.GtO: order > 0, api.GeO: order >= 0}
	return flag(holds[e.N])
}

func modelShift(e api.E, a, b *big.Int) *big.Int {
	if b.Cmp(big.NewInt(64)) >= 0 {
		return new(big.Int)
	}
	if e.N == api.ShlO {
		return ring(e.W, a.Lsh(a, uint(b.Int64())))
	}
	return a.Rsh(a, uint(b.Int64()))
}

func modelFold(d api.Flat, e api.E) api.E {
	if e.Op == api.NumE || e.Op == api.SigE {
		return e
	}
	numbers := 0
	made := e
	made.L = nil
	for _, part := range e.L {
		part = modelFold(d, part)
		made.L = append(made.L, part)
		if part.Op == api.NumE {
			numbers++
		}
	}
	first := made.L[0]
	switch {
	case e.Op == api.IndexE && first.Op == api.NumE:
		for bit := range d.Signals[e.Sig].W {
			if uint64(bit) == first.V {
				return bitsOf(e.Sig, bit, bit)
			}
		}
		return num(1, 0)
	case e.Op == api.CondE && first.Op == api.NumE:
		return made.L[2-first.V]
	case numbers == len(e.L):
		return num(e.W, modelEval(d, nil, made).Uint64())
	}
	return made
}

func modelNeeds(d api.Flat, e api.E) []int {
	needed := map[int]bool{}
	modelStands(d, e, needed)
	var l []int
	for bit := range needed {
		l = append(l, bit)
	}
	slices.Sort(l)
	return l
}

func modelStands(d api.Flat, e api.E, needed map[int]bool) {
	place := 0
	for k, s := range d.Signals {
		for bit := range s.W {
			if k == e.Sig && (e.Op == api.IndexE || e.Op == api.SigE && e.Lo <= bit && bit <= e.Hi) {
				needed[place] = true
			}
			place++
		}
	}
	for _, part := range e.L {
		modelStands(d, part, needed)
	}
}
