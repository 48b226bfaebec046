package ast_test

import (
	"fmt"
	"math"
	"slices"
	"strings"
	"testing"

	"filigree/api"
	"filigree/ast"
)

func num(w int, v uint64) api.X { return api.X{Op: api.NumX, W: w, V: v} }

func name(s string, l ...api.X) api.X {
	return api.X{Op: []int{api.NameX, api.IndexX, api.SliceX}[len(l)], Name: s, L: l}
}

func op(kind, n int, l ...api.X) api.X { return api.X{Op: kind, N: n, L: l} }

func block(l ...api.S) api.S { return api.S{Op: api.BlockS, L: l} }

func assign(target, value api.X) api.S { return api.S{Op: api.AssignS, X: []api.X{target, value}} }

func items(l ...api.Item) api.File {
	return api.File{Modules: []api.Module{{Name: "m", Items: l}}}
}

func brief(tree any) string {
	s := fmt.Sprintf("%+v", tree)
	return s[:min(len(s), 300)]
}

// wants holds Check, CheckX or CheckS against what is wanted, and against the model.
func wants[N any](t *testing.T, want api.Errno, check, model func(N) api.Errno, trees ...N) {
	t.Helper()
	for _, tree := range trees {
		if e := check(tree); e != want {
			t.Errorf("the check of %s: error %d, want %d", brief(tree), e, want)
		}
		if e := model(tree); e != want {
			t.Errorf("the model of %s: error %d, want %d", brief(tree), e, want)
		}
	}
}

func wantsX(t *testing.T, want api.Errno, l ...api.X) {
	t.Helper()
	wants(t, want, ast.CheckX, modelCheckX, l...)
	for _, x := range l {
		// What may be as an expression may be in all places of one, and what may not be in none.
		wants(t, want, ast.CheckX, modelCheckX, op(api.UnX, api.NotO, x))
		wants(t, want, ast.CheckS, modelCheckS, assign(name("a"), x), api.S{Op: api.CaseS, X: []api.X{num(0, 1)}, L: []api.S{{Op: api.ArmS, X: []api.X{x}}, {Op: api.ArmS}}})
		wants(t, want, ast.Check, modelCheck, api.File{Modules: []api.Module{{Name: "m", Ports: []api.Port{{Name: "p", W: x}}}}}, api.File{Modules: []api.Module{{Name: "m", Params: []api.Bind{{Name: "p", X: x}}}}},
			items(api.Item{Op: api.WireI, Name: "w", X: []api.X{x}}), items(api.Item{Op: api.InstI, Name: "i", Of: "m", Params: []api.Bind{{Name: "p", X: x}}}), items(api.Item{Op: api.InstI, Name: "i", Of: "m", Binds: []api.Bind{{Name: "p", X: x}}}))
	}
}

func wantsS(t *testing.T, want api.Errno, l ...api.S) {
	t.Helper()
	wants(t, want, ast.CheckS, modelCheckS, l...)
	for _, s := range l {
		wants(t, want, ast.CheckS, modelCheckS, block(s), api.S{Op: api.ForS, Name: "i", X: []api.X{num(0, 1), num(0, 2)}, L: []api.S{s}}, api.S{Op: api.CaseS, X: []api.X{num(0, 1)}, L: []api.S{{Op: api.ArmS, L: []api.S{s}}}})
		wants(t, want, ast.Check, modelCheck, items(api.Item{Op: api.CombI, S: []api.S{s}}), items(api.Item{Op: api.TickI, S: []api.S{s}}))
	}
}

func wantsItem(t *testing.T, want api.Errno, l ...api.Item) {
	t.Helper()
	for _, i := range l {
		wants(t, want, ast.Check, modelCheck, items(i), items(api.Item{Op: api.IfI, X: []api.X{num(0, 1)}, L: []api.Item{i}}), items(api.Item{Op: api.IfI, X: []api.X{num(0, 1)}, Else: []api.Item{i}}),
			items(api.Item{Op: api.ForI, Name: "l", Of: "i", X: []api.X{num(0, 0), num(0, 1)}, L: []api.Item{i}}))
	}
}

func TestExamples(t *testing.T) {
	x := op(api.BinX, api.AddO, name("a"), op(api.BinX, api.MulO, num(8, 3), name("b")))
	wantsX(t, api.OK, x)
	if l := ast.Free(x); !slices.Equal(l, []string{"a", "b"}) {
		t.Error(l)
	}
	// The module and its port are two nodes more.
	f := api.File{Modules: []api.Module{{Name: "m", Ports: []api.Port{{Name: "p", W: x}}}}}
	if ast.Size(f) != 2+5 || ast.Deep(f) != 2+3 {
		t.Error(ast.Size(f), ast.Deep(f))
	}
}

func TestNames(t *testing.T) {
	good := []string{"a", "z", "A", "Z", "_", "a0", "_9", "Module", "modules", "i", strings.Repeat("a", 64)}
	bad := append(strings.Fields(modelWords), "", " ", "9", "9a", "a b", "a ", " a", "a\n", "a.b", "a[0]", "é", "@", "`", "{", "a\x00", "a-", strings.Repeat("a", 65))
	for want, l := range map[api.Errno][]string{api.OK: good, api.ErrArg: bad} {
		for _, s := range l {
			one, two := num(0, 1), []api.X{num(0, 1), num(0, 2)}
			wantsX(t, want, name(s), name(s, one), name(s, two...))
			wantsS(t, want, api.S{Op: api.ForS, Name: s, X: two}, assign(name(s), one))
			wantsItem(t, want, api.Item{Op: api.ConstI, Name: s, X: two[:1]}, api.Item{Op: api.WireI, Name: s, X: two[:1]}, api.Item{Op: api.RegI, Name: s, X: two}, api.Item{Op: api.CheckI, Name: s, X: two[:1]},
				api.Item{Op: api.InstI, Name: s, Of: "m"}, api.Item{Op: api.InstI, Name: "m", Of: s}, api.Item{Op: api.ForI, Name: s, Of: "i", X: two}, api.Item{Op: api.ForI, Name: "l", Of: s, X: two},
				api.Item{Op: api.InstI, Name: "i", Of: "m", Params: []api.Bind{{Name: s, X: one}}}, api.Item{Op: api.InstI, Name: "i", Of: "m", Binds: []api.Bind{{Name: s, X: one}}})
			wants(t, want, ast.Check, modelCheck, api.File{Modules: []api.Module{{Name: s}}}, api.File{Modules: []api.Module{{Name: "m", Params: []api.Bind{{Name: s, X: one}}}}}, api.File{Modules: []api.Module{{Name: "m", Ports: []api.Port{{Name: s, W: one}}}}})
		}
	}
}

func TestExpressions(t *testing.T) {
	a, b, c := name("a"), name("b", num(0, 1)), name("c", num(0, 7), num(3, 0))
	wantsX(t, api.OK, a, b, c, num(0, 0), num(0, math.MaxUint64), num(1, 0), num(1, 1), num(8, 255), num(63, 1<<63-1), num(64, 1<<63), num(64, math.MaxUint64),
		op(api.CondX, 0, a, b, c), op(api.CatX, 0, a), op(api.CatX, 0, a, b, c, a), op(api.RepX, 0, num(0, 3), a))
	wantsX(t, api.ErrArg, api.X{}, num(1, 2), num(8, 256), num(63, 1<<63), num(65, 0), num(-1, 0), num(math.MaxInt, 0), num(math.MinInt, 1))
	for n := -5; n < 40; n++ {
		want := func(from, to int) api.Errno {
			if from <= n && n <= to {
				return api.OK
			}
			return api.ErrArg
		}
		wantsX(t, want(api.NotO, api.NoO), op(api.UnX, n, a))
		wantsX(t, want(api.AndO, api.OneO), op(api.BinX, n, a, b))
		wantsX(t, want(api.ZextO, api.CutO), op(api.ExtX, n, num(0, 3), b))
		if n != 0 {
			wantsX(t, api.ErrArg, op(api.NumX, n), op(api.CondX, n, a, b, c), op(api.CatX, n, a), op(api.RepX, n, a, b), api.X{Op: api.NameX, Name: "a", N: n}, api.X{Op: api.IndexX, Name: "a", N: n, L: []api.X{a}}, api.X{Op: api.SliceX, Name: "a", N: n, L: []api.X{a, b}})
		}
	}
	wantsX(t, api.ErrArg, op(api.UnX, math.MaxInt, a), op(api.BinX, math.MinInt, a, b))
}

func TestExpressionsOfSoManyParts(t *testing.T) {
	wanted := map[int][]int{api.NumX: {0}, api.NameX: {0}, api.SliceX: {2}, api.IndexX: {1}, api.UnX: {1}, api.BinX: {2}, api.CondX: {3}, api.CatX: {1, 2, 3, 4, 5}, api.RepX: {2}, api.ExtX: {2}}
	for kind := -3; kind < 15; kind++ {
		for n := range 6 {
			x := api.X{Op: kind, L: slices.Repeat([]api.X{num(0, 1)}, n)}
			x.N = map[int]int{api.UnX: api.NegO, api.BinX: api.LtO, api.ExtX: api.SextO}[kind]
			x.Name = map[int]string{api.NameX: "a", api.SliceX: "a", api.IndexX: "a"}[kind]
			if slices.Contains(wanted[kind], n) {
				wantsX(t, api.OK, x)
			} else {
				wantsX(t, api.ErrArg, x)
			}
			if kind != api.NumX {
				more := []api.X{x, x, x}
				more[0].W, more[1].V, more[2].W = 1, 1, -1
				wantsX(t, api.ErrArg, more...)
			}
			if x.Name == "" {
				x.Name = "a"
				wantsX(t, api.ErrArg, x)
			}
		}
	}
	wantsX(t, api.ErrArg, api.X{Op: math.MaxInt}, api.X{Op: math.MinInt}, api.X{Op: 1 << 32}, api.X{Op: 1<<32 + api.CatX, L: []api.X{num(0, 1)}})
}

func TestAssignments(t *testing.T) {
	a, one := name("a"), num(0, 1)
	wantsS(t, api.OK, assign(a, one), assign(name("a", one), one), assign(name("a", one, one), a))
	wantsS(t, api.ErrArg, assign(one, a), assign(op(api.CatX, 0, a, a), one), assign(op(api.UnX, api.NotO, a), a), assign(api.X{}, a), assign(a, api.X{}), assign(name("in"), a),
		api.S{Op: api.AssignS}, api.S{Op: api.AssignS, X: []api.X{a}}, api.S{Op: api.AssignS, X: []api.X{a, a, a}}, api.S{Op: api.AssignS, Name: "a", X: []api.X{a, a}}, api.S{Op: api.AssignS, X: []api.X{a, a}, L: []api.S{block()}})
	wantsItem(t, api.OK, api.Item{Op: api.AssignI, X: []api.X{a, one}}, api.Item{Op: api.AssignI, X: []api.X{name("a", one, one), one}})
	wantsItem(t, api.ErrArg, api.Item{Op: api.AssignI, X: []api.X{one, a}}, api.Item{Op: api.AssignI, X: []api.X{op(api.CondX, 0, a, a, a), one}}, api.Item{Op: api.AssignI, X: []api.X{{}, one}})
}

func TestStatements(t *testing.T) {
	a, set, arm := name("a"), assign(name("a"), num(0, 1)), api.S{Op: api.ArmS}
	choice := func(l ...api.S) api.S { return api.S{Op: api.IfS, X: []api.X{a}, L: l} }
	loop := api.S{Op: api.ForS, Name: "i", X: []api.X{a, a}}
	wantsS(t, api.OK, block(), block(set), block(block(), set, loop, choice(block(), block())), loop, choice(block(set), block()), choice(block(), choice(block(), choice(block(), block(set)))),
		api.S{Op: api.ForS, Name: "i", X: []api.X{a, a}, L: []api.S{set, loop, block()}})
	wantsS(t, api.ErrArg, api.S{}, arm, api.S{Op: api.ArmS, X: []api.X{a}, L: []api.S{set}}, api.S{Op: 7}, api.S{Op: -1}, api.S{Op: math.MaxInt}, api.S{Op: math.MinInt}, api.S{Op: 64 + api.BlockS}, api.S{Op: 1<<32 + api.BlockS},
		choice(), choice(block()), choice(block(), block(), block()), choice(set, block()), choice(block(), set), choice(choice(block(), block()), block()), choice(block(), loop), choice(block(), arm), choice(arm, block()), choice(block(), api.S{Op: -1}),
		api.S{Op: api.IfS, L: []api.S{block(), block()}}, api.S{Op: api.IfS, X: []api.X{a, a}, L: []api.S{block(), block()}}, api.S{Op: api.IfS, Name: "a", X: []api.X{a}, L: []api.S{block(), block()}}, choice(block(arm), block()), choice(block(), choice(block(), block(arm))),
		block(arm), block(set, arm), block(arm, set), block(block(arm)), block(api.S{}), block(api.S{Op: 70}), block(api.S{Op: math.MinInt}), api.S{Op: api.BlockS, Name: "a"}, api.S{Op: api.BlockS, X: []api.X{a}},
		api.S{Op: api.ForS, X: []api.X{a, a}}, api.S{Op: api.ForS, Name: "i", X: []api.X{a}}, api.S{Op: api.ForS, Name: "i", X: []api.X{a, a, a}}, api.S{Op: api.ForS, Name: "i"}, api.S{Op: api.ForS, Name: "i", X: []api.X{a, a}, L: []api.S{set, arm}}, api.S{Op: api.ForS, Name: "i", X: []api.X{a, {}}})
}

func TestCases(t *testing.T) {
	a, set, last := name("a"), assign(name("a"), num(0, 1)), api.S{Op: api.ArmS}
	one, two := api.S{Op: api.ArmS, X: []api.X{a}, L: []api.S{set}}, api.S{Op: api.ArmS, X: []api.X{a, num(0, 2)}}
	named := one
	named.Name = "a"
	cases := func(l ...api.S) api.S { return api.S{Op: api.CaseS, X: []api.X{a}, L: l} }
	with := func(l ...api.S) api.S { return api.S{Op: api.ArmS, L: l} }
	wantsS(t, api.OK, cases(last), cases(with(set, block(), cases(last))), cases(one, last), cases(two, one, two, with(set)))
	wantsS(t, api.ErrArg, cases(), cases(one), cases(last, one), cases(last, last), cases(one, last, last), cases(one, last, one), cases(one, two), cases(last, one, last),
		cases(block()), cases(block(), last), cases(one, block()), cases(one, set, last), cases(named, last), cases(api.S{Op: api.ArmS, Name: "a"}), cases(one, api.S{}), cases(api.S{Op: -1}, last), cases(api.S{Op: 9, X: []api.X{a}}, last),
		cases(with(last)), cases(with(one)), cases(with(api.S{})), cases(api.S{Op: api.ArmS, X: []api.X{{}}}, last), cases(api.S{Op: api.ArmS, X: []api.X{a}, L: []api.S{last}}, last),
		api.S{Op: api.CaseS, L: []api.S{last}}, api.S{Op: api.CaseS, X: []api.X{a, a}, L: []api.S{last}}, api.S{Op: api.CaseS, Name: "a", X: []api.X{a}, L: []api.S{last}})
}

// itemsOfKinds are items that may be, of all kinds, with as much as may be in them.
func itemsOfKinds() []api.Item {
	a, one := name("a"), []api.X{name("b")}
	two := []api.X{a, num(8, 200)}
	s, l, binds := []api.S{assign(a, a), block()}, []api.Item{{Op: api.WireI, Name: "w", X: one}, {Op: api.TickI}}, []api.Bind{{Name: "p", X: a}, {Name: "q", X: a}}
	return []api.Item{
		{Op: api.ConstI, Name: "c", X: one}, {Op: api.WireI, Name: "c", X: one}, {Op: api.RegI, Name: "c", X: two}, {Op: api.AssignI, X: two}, {Op: api.CombI, S: s}, {Op: api.TickI, S: s},
		{Op: api.InstI, Name: "i", Of: "m", Params: binds, Binds: binds}, {Op: api.IfI, X: one, L: l, Else: l}, {Op: api.ForI, Name: "l", Of: "i", X: two, L: l}, {Op: api.CheckI, Name: "c", X: one},
	}
}

func TestItems(t *testing.T) {
	wantsItem(t, api.OK, itemsOfKinds()...)
	wantsItem(t, api.OK, api.Item{Op: api.CombI}, api.Item{Op: api.TickI}, api.Item{Op: api.InstI, Name: "i", Of: "m"}, api.Item{Op: api.IfI, X: []api.X{name("a")}}, api.Item{Op: api.ForI, Name: "l", Of: "i", X: []api.X{name("a"), name("b")}})
	arm, bad := api.S{Op: api.ArmS}, api.Item{Op: api.WireI, Name: "w"}
	wantsItem(t, api.ErrArg, api.Item{}, api.Item{Op: -1}, api.Item{Op: 11}, api.Item{Op: math.MaxInt}, api.Item{Op: math.MinInt}, api.Item{Op: 1<<32 + api.CombI},
		api.Item{Op: api.CombI, S: []api.S{arm}}, api.Item{Op: api.TickI, S: []api.S{block(), arm}}, api.Item{Op: api.CombI, S: []api.S{{}}}, api.Item{Op: api.IfI, X: []api.X{name("a")}, L: []api.Item{bad}}, api.Item{Op: api.IfI, X: []api.X{name("a")}, Else: []api.Item{bad}}, api.Item{Op: api.ForI, Name: "l", Of: "i", X: []api.X{name("a"), name("b")}, L: []api.Item{bad}})
}

func TestItemsWithPartsOfOthers(t *testing.T) {
	for _, i := range itemsOfKinds() {
		full := []bool{i.Name != "", i.Of != "", len(i.S) > 0, len(i.L) > 0, len(i.Else) > 0, len(i.Params) > 0, len(i.Binds) > 0}
		with := slices.Repeat([]api.Item{i}, len(full))
		with[0].Name, with[1].Of, with[2].S, with[3].L, with[4].Else = "n", "n", []api.S{block()}, []api.Item{{Op: api.CombI}}, []api.Item{{Op: api.CombI}}
		with[5].Params, with[6].Binds = []api.Bind{{Name: "p", X: name("a")}}, []api.Bind{{Name: "p", X: name("a")}}
		for k, w := range with {
			if full[k] {
				wantsItem(t, api.OK, w)
			} else {
				wantsItem(t, api.ErrArg, w)
			}
		}
		for n := range 5 {
			other := i
			other.X = slices.Repeat([]api.X{name("a")}, n)
			if n == len(i.X) {
				wantsItem(t, api.OK, other)
			} else {
				wantsItem(t, api.ErrArg, other)
			}
		}
	}
}

func TestFiles(t *testing.T) {
	one := num(0, 1)
	m := api.Module{Name: "m", Params: []api.Bind{{Name: "p", X: one}}, Ports: []api.Port{{Name: "i", W: one}, {Name: "o", Out: true, W: name("p")}}, Items: itemsOfKinds()}
	wants(t, api.OK, ast.Check, modelCheck, api.File{}, api.File{Modules: []api.Module{}}, api.File{Modules: []api.Module{m}}, api.File{Modules: []api.Module{m, m, {Name: "m"}}})
	bad := []api.Module{{}, m, m, m, m, m}
	bad[1].Name, bad[2].Params, bad[3].Ports, bad[4].Items, bad[5].Items = "", []api.Bind{{Name: "p"}}, []api.Port{{Name: "p"}}, []api.Item{{}}, []api.Item{{Op: api.CombI}, {Op: api.WireI}}
	for _, b := range bad {
		wants(t, api.ErrArg, ast.Check, modelCheck, api.File{Modules: []api.Module{b}}, api.File{Modules: []api.Module{m, b}}, api.File{Modules: []api.Module{b, m}})
	}
}
