package ast_test

import (
	"math"
	"slices"
	"testing"

	"filigree/api"
	"filigree/ast"
)

// measures holds Size and Deep against what is wanted.
func measures(t *testing.T, f api.File, size, deep int) {
	t.Helper()
	if s, d := ast.Size(f), ast.Deep(f); s != size || d != deep {
		t.Errorf("%s: %d nodes, %d deep, want %d, %d", brief(f), s, d, size, deep)
	}
}

func TestSizeAndDeep(t *testing.T) {
	one, binds := num(0, 1), []api.Bind{{Name: "p", X: num(0, 1)}, {Name: "q", X: op(api.UnX, api.NotO, name("a"))}}
	measures(t, api.File{}, 0, 0)
	measures(t, api.File{Modules: []api.Module{}}, 0, 0)
	measures(t, api.File{Modules: []api.Module{{Name: "m"}}}, 1, 1)
	measures(t, api.File{Modules: []api.Module{{}, {Name: "m"}, {}}}, 3, 1)
	measures(t, api.File{Modules: []api.Module{{Name: "m", Ports: []api.Port{{Name: "p", W: one}}}}}, 3, 3)
	measures(t, api.File{Modules: []api.Module{{Name: "m", Params: binds}}}, 1+2+3, 4)
	measures(t, items(api.Item{Op: api.CombI}), 2, 2)
	measures(t, items(api.Item{Op: api.WireI, X: []api.X{one}}), 3, 3)
	measures(t, items(api.Item{Op: api.TickI, S: []api.S{assign(name("a"), one), block()}}), 2+3+1, 4)
	measures(t, items(api.Item{Op: api.IfI, X: []api.X{one}, L: []api.Item{{Op: api.CombI}, {Op: api.CombI}}, Else: []api.Item{{Op: api.WireI, X: []api.X{one}}}}), 2+1+2+2, 4)
	measures(t, items(api.Item{Op: api.InstI, Params: binds, Binds: binds}), 2+5+5, 5)
	measures(t, api.File{Modules: []api.Module{{Ports: []api.Port{{W: one}}}, {Items: []api.Item{{S: []api.S{block(block(block()))}}}}}}, 3+5, 5)
}

func TestPartsOfItemsThatMayNotHaveThem(t *testing.T) {
	one := num(0, 1)
	for kind := -1; kind < 13; kind++ {
		i := api.Item{Op: kind, X: []api.X{one, one}, S: []api.S{block()}, L: []api.Item{{}}, Else: []api.Item{{}, {Op: 3}}, Params: []api.Bind{{X: one}}, Binds: []api.Bind{{}, {}}}
		measures(t, items(i), 1+1+2+1+1+2+2+4, 4)
		x := api.X{Op: kind, L: []api.X{one, {L: []api.X{one}}}}
		s := api.S{Op: kind, X: []api.X{x}, L: []api.S{{X: []api.X{x}}}}
		measures(t, items(api.Item{S: []api.S{s}}), 2+1+4+1+4, 7)
	}
}

// parts is an expression of so many nodes: parts of one.
func parts(n int) api.X { return op(api.CatX, 0, slices.Repeat([]api.X{num(0, 1)}, n-1)...) }

// tower is an expression of so many nodes one within the other.
func tower(n int) api.X {
	x := num(0, 1)
	for range n - 1 {
		x = op(api.UnX, api.NotO, x)
	}
	return x
}

func towerS(n int) api.S {
	s := block()
	for range n - 1 {
		s = block(s)
	}
	return s
}

func towerI(n int) api.Item {
	i := api.Item{Op: api.CombI}
	for range n - 1 {
		i = api.Item{Op: api.IfI, X: []api.X{num(0, 1)}, L: []api.Item{i}}
	}
	return i
}

// is wants an error of a check.
func is[N any](t *testing.T, want api.Errno, check func(N) api.Errno, tree N) {
	t.Helper()
	if e := check(tree); e != want {
		t.Errorf("%s: error %d, want %d", brief(tree), e, want)
	}
}

func port(x api.X) api.File {
	return api.File{Modules: []api.Module{{Name: "m", Ports: []api.Port{{Name: "p", W: x}}}}}
}

func TestModulesBound(t *testing.T) {
	l := slices.Repeat([]api.Module{{Name: "m"}}, 65)
	is(t, api.OK, ast.Check, api.File{Modules: l[:64]})
	is(t, api.ErrBound, ast.Check, api.File{Modules: l})
	l[3].Name = ""
	is(t, api.ErrArg, ast.Check, api.File{Modules: l[:64]})
	is(t, api.ErrBound, ast.Check, api.File{Modules: l})
	is(t, api.ErrBound, ast.Check, api.File{Modules: make([]api.Module, 1000)})
	measures(t, api.File{Modules: l}, 65, 1)
}

func TestSizeBound(t *testing.T) {
	const most = 65536
	is(t, api.OK, ast.CheckX, parts(most))
	is(t, api.ErrBound, ast.CheckX, parts(most+1))
	is(t, api.OK, ast.Check, port(parts(most-2)))
	is(t, api.ErrBound, ast.Check, port(parts(most-1)))
	is(t, api.OK, ast.CheckS, assign(name("a"), parts(most-2)))
	is(t, api.ErrBound, ast.CheckS, assign(name("a"), parts(most-1)))
	is(t, api.OK, ast.CheckS, block(slices.Repeat([]api.S{block()}, most-1)...))
	is(t, api.ErrBound, ast.CheckS, block(slices.Repeat([]api.S{block()}, most)...))
	is(t, api.OK, ast.Check, items(slices.Repeat([]api.Item{{Op: api.CombI}}, most-1)...))
	is(t, api.ErrBound, ast.Check, items(slices.Repeat([]api.Item{{Op: api.CombI}}, most)...))
	bind := api.Bind{Name: "b", X: num(0, 1)}
	is(t, api.OK, ast.Check, items(api.Item{Op: api.InstI, Name: "i", Of: "m", Params: slices.Repeat([]api.Bind{bind}, 16383), Binds: slices.Repeat([]api.Bind{bind}, 16384)}))
	is(t, api.ErrBound, ast.Check, items(api.Item{Op: api.InstI, Name: "i", Of: "m", Params: slices.Repeat([]api.Bind{bind}, 16384), Binds: slices.Repeat([]api.Bind{bind}, 16384)}))
	measures(t, port(parts(200000)), 200002, 4)
	// What is too great is told ahead of what may not be.
	is(t, api.ErrArg, ast.CheckX, api.X{L: parts(most).L})
	is(t, api.ErrBound, ast.CheckX, api.X{L: parts(most + 1).L})
	is(t, api.ErrArg, ast.CheckS, api.S{Op: api.ArmS, X: parts(most).L})
	is(t, api.ErrBound, ast.CheckS, api.S{Op: api.ArmS, X: parts(most + 1).L})
	is(t, api.ErrArg, ast.Check, port(api.X{Op: -1, L: parts(most - 2).L}))
	is(t, api.ErrBound, ast.Check, port(api.X{Op: -1, L: parts(most - 1).L}))
	is(t, api.ErrArg, ast.Check, items(slices.Repeat([]api.Item{{}}, most-1)...))
	is(t, api.ErrBound, ast.Check, items(slices.Repeat([]api.Item{{}}, most)...))
}

func TestDeepBound(t *testing.T) {
	is(t, api.OK, ast.CheckX, tower(64))
	is(t, api.ErrBound, ast.CheckX, tower(65))
	is(t, api.OK, ast.CheckS, towerS(64))
	is(t, api.ErrBound, ast.CheckS, towerS(65))
	is(t, api.OK, ast.CheckS, assign(name("a"), tower(63)))
	is(t, api.ErrBound, ast.CheckS, assign(name("a"), tower(64)))
	is(t, api.OK, ast.Check, port(tower(62)))
	is(t, api.ErrBound, ast.Check, port(tower(63)))
	is(t, api.OK, ast.Check, items(towerI(63)))
	is(t, api.ErrBound, ast.Check, items(towerI(64)))
	is(t, api.OK, ast.Check, items(api.Item{Op: api.TickI, S: []api.S{towerS(62)}}))
	is(t, api.ErrBound, ast.Check, items(api.Item{Op: api.TickI, S: []api.S{towerS(63)}}))
	instance := api.Item{Op: api.InstI, Name: "i", Of: "m", Binds: []api.Bind{{Name: "b", X: tower(61)}}}
	is(t, api.OK, ast.Check, items(instance))
	instance.Binds[0].X = tower(62)
	is(t, api.ErrBound, ast.Check, items(instance))
	is(t, api.ErrArg, ast.CheckX, api.X{L: []api.X{tower(63)}})
	is(t, api.ErrBound, ast.CheckX, api.X{L: []api.X{tower(64)}})
	is(t, api.ErrArg, ast.CheckS, api.S{Op: api.ArmS, L: []api.S{towerS(63)}})
	is(t, api.ErrBound, ast.CheckS, api.S{Op: api.ArmS, L: []api.S{towerS(64)}})
	// The last node alone is too deep.
	is(t, api.ErrBound, ast.CheckX, op(api.CatX, 0, num(0, 1), tower(2), tower(64)))
}

func TestTowers(t *testing.T) {
	const high = 1 << 16
	x, s, i := tower(high), towerS(high), towerI(high)
	measures(t, port(x), high+2, high+2)
	measures(t, items(api.Item{Op: api.CombI, S: []api.S{s}}), high+2, high+2)
	measures(t, items(i), 2*high, high+1)
	is(t, api.ErrBound, ast.CheckX, x)
	is(t, api.ErrBound, ast.CheckS, s)
	is(t, api.ErrBound, ast.Check, items(i))
	if !ast.SameX(x, tower(high)) || ast.SameX(x, tower(high-1)) || !ast.SameS(s, towerS(high)) || !ast.Same(items(i), items(towerI(high))) || ast.Same(items(i), items(towerI(high+1))) {
		t.Error("towers that are the same are not, or others are")
	}
	if l := ast.Free(x); len(l) > 0 {
		t.Error(l)
	}
}

// TestTreesWithoutEnd: where parts share their lists, or stand in themselves, a check is to end all the same.
func TestTreesWithoutEnd(t *testing.T) {
	wide := num(0, 1)
	for range 60 {
		wide = op(api.BinX, api.AddO, wide, wide)
	}
	is(t, api.ErrBound, ast.CheckX, wide)
	is(t, api.ErrBound, ast.CheckS, assign(name("a"), wide))
	is(t, api.ErrBound, ast.Check, port(wide))
	ring := []api.X{{Op: api.UnX, N: api.NotO}, num(0, 1)}
	ring[0].L = ring
	is(t, api.ErrBound, ast.CheckX, ring[0])
	ringS := []api.S{block()}
	ringS[0].L = ringS
	is(t, api.ErrBound, ast.CheckS, ringS[0])
	ringI := []api.Item{{Op: api.IfI, X: []api.X{num(0, 1)}}}
	ringI[0].Else = ringI
	is(t, api.ErrBound, ast.Check, items(ringI...))
}

func TestTreesOfChance(t *testing.T) {
	c := chance(7)
	for range 1500 {
		x, s, f := c.x(c.below(5)), c.s(c.below(5)), c.file(c.below(6))
		wants(t, api.OK, ast.CheckX, modelCheckX, x)
		wants(t, api.OK, ast.CheckS, modelCheckS, s)
		wants(t, api.OK, ast.Check, modelCheck, f)
		size, deep := modelMeasure(f)
		measures(t, f, size, deep)
	}
}

func TestFree(t *testing.T) {
	frees := func(x api.X, want ...string) {
		t.Helper()
		if got := ast.Free(x); !slices.Equal(got, want) {
			t.Errorf("Free(%s) = %q, want %q", brief(x), got, want)
		}
	}
	frees(api.X{})
	frees(num(8, 3))
	frees(name("a"), "a")
	frees(name("b", name("a")), "b", "a")
	frees(name("c", name("b"), name("a")), "c", "b", "a")
	frees(name("a", name("a"), name("a", name("a"))), "a")
	frees(op(api.CondX, 0, name("z", name("y")), op(api.CatX, 0, name("y"), name("x"), num(0, 1)), op(api.ExtX, api.CutO, name("w"), name("z"))), "z", "y", "x", "w")
	frees(op(api.RepX, 0, name("n"), name("N")), "n", "N")
	// Trees that may not be have names, too, wherever nodes of these kinds stand.
	frees(api.X{Op: api.NumX, Name: "no", L: []api.X{name("a")}}, "a")
	frees(api.X{Op: -1, Name: "no", L: []api.X{{Op: math.MinInt, Name: "nor"}, name("a"), {Op: math.MaxInt, Name: "nor"}}}, "a")
	frees(api.X{Op: api.NameX, L: []api.X{{Op: api.IndexX, Name: "in"}, {Op: api.SliceX, Name: "9"}, name("a")}}, "", "in", "9", "a")
	frees(parts(100000))
}

func TestFreeOfChance(t *testing.T) {
	c := chance(11)
	for range 2000 {
		x := c.x(c.below(6))
		for l := places(slotOf(&x)); c.below(3) > 0; {
			c.change(l[c.below(len(l))])
			l = places(slotOf(&x))
		}
		before := clone(x)
		got, want := ast.Free(x), modelFree(x)
		if !slices.Equal(got, want) {
			t.Fatalf("Free(%s) = %q, want %q", brief(x), got, want)
		}
		for i := range got {
			got[i] = "changed"
		}
		if !modelSame(x, before) || !slices.Equal(ast.Free(x), want) {
			t.Fatal("an answer hangs on another one, or the tree was changed")
		}
	}
}
