package eval_test

import (
	"testing"

	"filigree/api"
	"filigree/eval"
)

// turned is an expression of one bit behind as many NoO.
func turned(e api.E, times int) api.E {
	for range times {
		e = of(api.UnE, api.NoO, 1, e)
	}
	return e
}

// wide is an expression of just so many nodes, which are not deep.
func wide(op int, leaf api.E, nodes int) api.E {
	if nodes < 3 {
		return turned(leaf, nodes-1)
	}
	left := (nodes - 1) / 2
	return of(api.BinE, op, 1, wide(op, leaf, left), wide(op, leaf, nodes-1-left))
}

func nodesOf(e api.E) int {
	n := 1
	for _, part := range e.L {
		n += nodesOf(part)
	}
	return n
}

func TestDepth(t *testing.T) {
	d, v := base(t), values()
	for _, leaf := range []api.E{bitsOf(3, 0, 0), num(1, 1)} {
		is(t, d, v, turned(leaf, 63), 0)
		is(t, d, v, turned(leaf, 62), 1)
		refused(t, "65 deep", d, v, turned(leaf, 64))
		refused(t, "1000 deep", d, v, turned(leaf, 999))
		refused(t, "65536 deep", d, v, turned(leaf, 65535))
	}
	folds(t, d, turned(num(1, 1), 63), `0:1`)
	needs(t, d, turned(bitsOf(3, 0, 0), 63), 15)
	deep := turned(bitsOf(3, 0, 0), 62)
	folds(t, d, deep, show(d, deep))
	folds(t, d, of(api.CondE, 0, 1, num(1, 1), deep, deep), show(d, deep))
}

func TestNodes(t *testing.T) {
	d, v := base(t), values()
	signal, one := wide(api.OneO, bitsOf(3, 0, 0), 65536), wide(api.OneO, num(1, 1), 65536)
	for _, most := range []api.E{signal, one} {
		if nodesOf(most) != 65536 {
			t.Fatal(nodesOf(most))
		}
		is(t, d, v, most, 1)
		refused(t, "65537 nodes", d, v, of(api.UnE, api.NoO, 1, most))
	}
	folds(t, d, one, `1:1`)
	needs(t, d, one)
	needs(t, d, signal, 15)
	if got, err := eval.Fold(d, signal); err != api.OK || nodesOf(got) != 65536 {
		t.Errorf("%d nodes, error %d", nodesOf(got), err)
	}
	refused(t, "65537 nodes", d, v, wide(api.BothO, bitsOf(3, 0, 0), 65537))
	refused(t, "65537 nodes", d, v, wide(api.BothO, num(1, 1), 65537))
	refused(t, "parts of 65536 nodes", d, v, of(api.CatE, 0, 2, signal, num(1, 1)))
	// The nodes of a design are counted apart from those of an expression.
	d.Checks = []api.Check{{Name: "c", E: wide(api.BothO, bitsOf(3, 0, 0), 65000)}}
	d.Procs = nil
	is(t, d, v, signal, 1)
	needs(t, d, signal, 15)
	folds(t, d, one, `1:1`)
}

// TestManyParts: there are as many parts behind each other as there are bits.
func TestManyParts(t *testing.T) {
	d, v := base(t), values()
	var parts []api.E
	for k := range 64 {
		parts = append(parts, bitsOf(4, k, k))
	}
	// The lowest bit comes first, and the highest last: both are 1.
	is(t, d, v, of(api.CatE, 0, 64, parts...), v[4])
	is(t, d, v, of(api.CatE, 0, 63, parts[1:]...), 1)
	is(t, d, v, of(api.CatE, 0, 63, parts[:63]...), 1<<62)
	needs(t, d, of(api.CatE, 0, 62, parts[1:63]...), from(nil, 17, 78)...)
	refused(t, "65 bits", d, v, of(api.CatE, 0, 65, append(parts, bitsOf(3, 0, 0))...))
}

// TestSharedLists: calls end, however often a list stands in an expression, or even if it stands in itself.
func TestSharedLists(t *testing.T) {
	d, v := base(t), values()
	e := bitsOf(3, 0, 0)
	for range 12 {
		e = of(api.BinE, api.BothO, 1, e, e)
	}
	is(t, d, v, e, 1)
	needs(t, d, e, 15)
	for range 50 {
		e = of(api.BinE, api.BothO, 1, e, e)
	}
	refused(t, "lists that share each other", d, v, e)
	ring := of(api.UnE, api.NoO, 1, e)
	ring.L[0] = ring
	refused(t, "a list that stands in itself", d, v, ring)
	d.Checks = []api.Check{{Name: "c", E: e}}
	refused(t, "a design of lists that share each other", d, v, bitsOf(3, 0, 0))
	d.Checks[0].E = ring
	refused(t, "a design of a list that stands in itself", d, v, bitsOf(3, 0, 0))
}
