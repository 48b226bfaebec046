package konst_test

import (
	"fmt"
	"slices"
	"testing"

	"filigree/api"
	"filigree/ast"
	"filigree/konst"
)

// tower is an expression of so many nodes one within the other: nots of a number.
func tower(n int) api.X {
	x := number(0, 0)
	for range n - 1 {
		x = of(api.UnX, api.NoO, x)
	}
	return x
}

// bush is an expression of 2 to the power of so many leaves, put together two by two.
func bush(op, deep int, leaf func() api.X) api.X {
	if deep == 0 {
		return leaf()
	}
	return of(api.BinX, op, bush(op, deep-1, leaf), bush(op, deep-1, leaf))
}

func TestGreatest(t *testing.T) {
	one := func() api.X { return number(0, 1) }
	evals(t, tower(63), nil, 0, api.OK)
	evals(t, tower(64), nil, 1, api.OK)
	evals(t, tower(65), nil, 0, api.ErrArg)
	half, most := bush(api.AddO, 14, one), bush(api.AddO, 15, one)
	evals(t, most, nil, 1<<15, api.OK)
	evals(t, of(api.UnX, api.NoO, most), nil, 0, api.OK)
	evals(t, of(api.UnX, api.NoO, of(api.UnX, api.NoO, most)), nil, 0, api.ErrArg)
	evals(t, of(api.CondX, 0, half, half, one()), nil, 1<<14, api.OK)
	evals(t, of(api.CondX, 0, half, one(), most), nil, 0, api.ErrArg)
	becomes(t, tower(3000), constants(), tower(3000))
}

// TestManyConstants: the last one of a name counts, however many names there are, and are asked for.
func TestManyConstants(t *testing.T) {
	const many = 1 << 15
	var env []api.Named
	for round := range 20 {
		for i := range many {
			env = append(env, api.Named{Name: fmt.Sprint("n", i), V: i + 19 - round})
		}
	}
	next := 0
	x := bush(api.AddO, 15, func() api.X {
		next++
		return name(fmt.Sprint("n", next-1))
	})
	evals(t, x, env, many*(many-1)/2, api.OK)
	for i, y := range leaves(konst.Subst(x, env)) {
		if !ast.SameX(y, number(0, uint64(i))) {
			t.Fatalf("leaf %d: %v", i, y)
		}
	}
	env = append(env, api.Named{Name: "n9", V: -1})
	evals(t, x, env, 0, api.ErrOver)
	evals(t, x, slices.DeleteFunc(env, func(c api.Named) bool { return c.Name == "n9" }), 0, api.ErrFree)
}

func leaves(x api.X) []api.X {
	if len(x.L) == 0 {
		return []api.X{x}
	}
	return append(leaves(x.L[0]), leaves(x.L[1])...)
}

// TestArgumentsStay: what is handed in is not changed.
func TestArgumentsStay(t *testing.T) {
	luck := chance(8)
	for range 2000 {
		x, env := luck.spoilt(luck.x(6)), luck.env(false)
		x2, env2 := whole(x), slices.Clone(env)
		konst.Lookup(env, "n3")
		konst.Eval(x, env)
		konst.Width(x, env)
		konst.Number(x, env)
		konst.Subst(x, env)
		if !ast.SameX(x, x2) || !slices.Equal(env, env2) {
			t.Fatalf("%v was changed", brief(x2))
		}
	}
}

// whole is an expression, with lists of its own.
func whole(x api.X) api.X {
	var l []api.X
	for _, part := range x.L {
		l = append(l, whole(part))
	}
	x.L = l
	return x
}

// mark gives all parts numbers of their own, from a number on, and tells the next one.
func mark(l []api.X, next uint64) uint64 {
	for i := range l {
		l[i].V = next
		next = mark(l[i].L, next+1)
	}
	return next
}

// marked tells whether all parts have the numbers that mark gave them.
func marked(l []api.X, next *uint64) bool {
	for _, part := range l {
		*next++
		if part.V != *next-1 || !marked(part.L, next) {
			return false
		}
	}
	return true
}

// TestListsAreNew: lists of an answer share nothing with each other, nor with the argument, even where its own lists do.
func TestListsAreNew(t *testing.T) {
	l := []api.X{name("N"), name("M"), number(8, 1)}
	stays := api.X{Op: api.NameX, Name: "M", L: []api.X{{Op: api.CatX, L: l}, {Op: api.CatX, L: l}}}
	x := of(api.CatX, 0, api.X{Op: api.CatX, L: l}, api.X{Op: api.RepX, L: l[:2]}, stays, stays, api.X{Op: 99, L: l})
	y, z := konst.Subst(x, constants()), konst.Subst(x, nil)
	mark(z.L, mark(y.L, 1000))
	next := uint64(1000)
	if !marked(y.L, &next) || !marked(z.L, &next) {
		t.Error("two lists of answers share a part")
	}
	if !ast.SameX(whole(x), of(api.CatX, 0, api.X{Op: api.CatX, L: []api.X{name("N"), name("M"), number(8, 1)}}, api.X{Op: api.RepX, L: []api.X{name("N"), name("M")}}, stays, stays, api.X{Op: 99, L: []api.X{name("N"), name("M"), number(8, 1)}})) || l[2].V != 1 || stays.L[0].V != 0 {
		t.Error("an answer shares a list with the argument")
	}
}
