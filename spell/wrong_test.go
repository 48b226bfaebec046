package spell_test

import (
	"slices"
	"strings"
	"testing"

	"filigree/api"
	"filigree/ast"
	"filigree/spell"
)

// refuses wants an error of a call, and nothing beside it.
func refuses[N any](t *testing.T, tree any, want api.Errno, l []N, e api.Errno) {
	t.Helper()
	if e != want || len(l) > 0 {
		t.Errorf("of %s: %d tokens or bytes, error %d, want error %d", brief(tree), len(l), e, want)
	}
}

func refusesX(t *testing.T, want api.Errno, x api.X) {
	t.Helper()
	if e := ast.CheckX(x); e != want {
		t.Fatalf("CheckX(%s) = %d, want %d", brief(x), e, want)
	}
	l, e := spell.TokensX(x)
	refuses(t, x, want, l, e)
	text, e := spell.PrintX(x)
	refuses(t, x, want, text, e)
}

func refusesS(t *testing.T, want api.Errno, s api.S) {
	t.Helper()
	if e := ast.CheckS(s); e != want {
		t.Fatalf("CheckS(%s) = %d, want %d", brief(s), e, want)
	}
	for _, clocked := range []bool{false, true} {
		l, e := spell.TokensS(s, clocked)
		refuses(t, s, want, l, e)
	}
}

func refusesFile(t *testing.T, want api.Errno, f api.File) {
	t.Helper()
	if e := ast.Check(f); e != want {
		t.Fatalf("Check(%s) = %d, want %d", brief(f), e, want)
	}
	l, e := spell.Tokens(f)
	refuses(t, f, want, l, e)
	text, e := spell.Print(f)
	refuses(t, f, want, text, e)
}

// wrongX are expressions that may not be, each for a reason of its own.
func wrongX() []api.X {
	return []api.X{
		{}, op(-1, 0), op(11, 0), op(11, 0, a), name(""), name("in"), name("9"), name("a b"), name(strings.Repeat("n", 65)), op(api.NameX, 0), {Op: api.NameX, Name: "a", L: []api.X{b}},
		num(-1, 0), num(65, 0), num(8, 256), {Op: api.NumX, Name: "a"}, {Op: api.NumX, N: 1},
		{Op: api.SliceX, Name: "a"}, {Op: api.SliceX, Name: "a", L: []api.X{b}}, {Op: api.IndexX, Name: "a"}, {Op: api.IndexX, L: []api.X{b}}, {Op: api.IndexX, Name: "a", L: []api.X{b, c}},
		op(api.UnX, api.NotO), un(0, a), un(7, a), un(-1, a), un(1<<62, a), un(api.AndO, a), op(api.UnX, api.NotO, a, b),
		op(api.BinX, api.AddO), op(api.BinX, api.AddO, a), op(api.BinX, api.AddO, a, b, c), bin(a, 10, b), bin(a, 27, b), bin(a, api.NotO, b), bin(a, 0, b), bin(a, -11, b),
		op(api.CondX, 0), op(api.CondX, 0, a, b), op(api.CondX, 1, a, b, c), cat(), op(api.CatX, 1, a), op(api.RepX, 0), op(api.RepX, 0, a), op(api.RepX, 0, a, b, c),
		op(api.ExtX, api.ZextO), op(api.ExtX, api.ZextO, a), op(api.ExtX, 30, a, b), op(api.ExtX, 34, a, b), op(api.ExtX, 0, a, b),
	}
}

func TestExpressionsThatMayNotBe(t *testing.T) {
	for _, x := range wrongX() {
		refusesX(t, api.ErrArg, x)
		refusesX(t, api.ErrArg, cat(a, x))
		refusesX(t, api.ErrArg, un(api.NotO, x))
		refusesX(t, api.ErrArg, bin(a, api.AddO, x))
		refusesS(t, api.ErrArg, set(a, x))
		refusesS(t, api.ErrArg, choose(a, arm([]api.X{x}), arm(nil)))
		refusesFile(t, api.ErrArg, items(api.Item{Op: api.WireI, Name: "w", X: []api.X{x}}))
		refusesFile(t, api.ErrArg, api.File{Modules: []api.Module{{Name: "m", Ports: []api.Port{{Name: "p", W: x}}}}})
		refusesFile(t, api.ErrArg, api.File{Modules: []api.Module{{Name: "m", Params: []api.Bind{{Name: "p", X: x}}}}})
	}
}

func TestStatementsThatMayNotBe(t *testing.T) {
	for _, s := range []api.S{
		{}, {Op: -1}, {Op: 7}, {Op: api.AssignS}, {Op: api.AssignS, X: []api.X{a}}, set(num(0, 1), a), set(cat(a), a), {Op: api.AssignS, X: []api.X{a, b}, L: []api.S{block()}},
		{Op: api.IfS}, {Op: api.IfS, X: []api.X{a}}, {Op: api.IfS, L: []api.S{block(), block()}}, when(a, set(a, b), block()), when(a, block(), set(a, b)), {Op: api.IfS, X: []api.X{a}, L: []api.S{block()}},
		{Op: api.CaseS}, choose(a), {Op: api.CaseS, L: []api.S{arm(nil)}}, choose(a, block()), choose(a, arm([]api.X{b})), choose(a, arm(nil), arm(nil)), choose(a, arm(nil), arm([]api.X{b})),
		arm(nil), arm([]api.X{a}), block(arm(nil)), {Op: api.BlockS, X: []api.X{a}}, {Op: api.BlockS, Name: "a"},
		{Op: api.ForS, Name: "i"}, {Op: api.ForS, Name: "i", X: []api.X{a}}, {Op: api.ForS, X: []api.X{a, b}}, {Op: api.ForS, Name: "if", X: []api.X{a, b}},
	} {
		refusesS(t, api.ErrArg, s)
		refusesS(t, api.ErrArg, block(block(), s))
		refusesFile(t, api.ErrArg, items(api.Item{Op: api.CombI, S: []api.S{s}}))
		refusesFile(t, api.ErrArg, items(api.Item{Op: api.TickI, S: []api.S{block(), s}}))
	}
}

func TestFilesThatMayNotBe(t *testing.T) {
	one, two := []api.X{a}, []api.X{a, b}
	for _, i := range []api.Item{
		{}, {Op: -1}, {Op: 11}, {Op: api.ConstI, Name: "K"}, {Op: api.ConstI, X: one}, {Op: api.WireI, Name: "w"}, {Op: api.WireI, Name: "w", Of: "n", X: one}, {Op: api.RegI, Name: "q"}, {Op: api.RegI, Name: "q", X: one},
		{Op: api.AssignI}, {Op: api.AssignI, X: one}, {Op: api.AssignI, X: []api.X{num(0, 1), a}}, {Op: api.CombI, Name: "n"}, {Op: api.TickI, X: one},
		{Op: api.InstI, Name: "u"}, {Op: api.InstI, Of: "n"}, {Op: api.InstI, Name: "u", Of: "n", Binds: []api.Bind{{X: a}}}, {Op: api.InstI, Name: "u", Of: "n", Params: []api.Bind{{Name: "p"}}},
		{Op: api.IfI}, {Op: api.IfI, X: two}, {Op: api.ForI, Name: "l", Of: "i"}, {Op: api.ForI, Name: "l", Of: "i", X: one}, {Op: api.ForI, Name: "l", X: two}, {Op: api.ForI, Name: "l", Of: "i", X: two, Else: []api.Item{{Op: api.CombI}}},
		{Op: api.CheckI, Name: "c"}, {Op: api.CheckI, X: one},
	} {
		refusesFile(t, api.ErrArg, items(i))
		refusesFile(t, api.ErrArg, items(api.Item{Op: api.CombI}, api.Item{Op: api.IfI, X: one, Else: []api.Item{i}}))
	}
	refusesFile(t, api.ErrArg, api.File{Modules: []api.Module{{}}})
	refusesFile(t, api.ErrArg, api.File{Modules: []api.Module{{Name: "m"}, {Name: "module"}}})
	refusesFile(t, api.ErrArg, api.File{Modules: []api.Module{{Name: "m", Ports: []api.Port{{Name: "p"}}}}})
	refusesFile(t, api.ErrArg, api.File{Modules: []api.Module{{Name: "m", Ports: []api.Port{{W: a}}}}})
}

// tower is an expression of so many nodes one within the other.
func tower(n int) api.X {
	x := a
	for range n - 1 {
		x = un(api.NotO, x)
	}
	return x
}

func towerS(n int) api.S {
	s := block()
	for range n - 1 {
		s = block(s)
	}
	return s
}

func TestDepth(t *testing.T) {
	spellsX(t, strings.Repeat("~ ", 63)+"a", tower(64))
	refusesX(t, api.ErrBound, tower(65))
	spellsS(t, strings.Repeat("{ ", 64)+strings.TrimSpace(strings.Repeat("} ", 64)), towerS(64))
	refusesS(t, api.ErrBound, towerS(65))
	spells(t, "module m ( ) { comb { "+strings.Repeat("{ ", 62)+strings.Repeat("} ", 62)+"} }", items(api.Item{Op: api.CombI, S: []api.S{towerS(62)}}))
	refusesFile(t, api.ErrBound, items(api.Item{Op: api.CombI, S: []api.S{towerS(63)}}))
	// What is too great is told ahead of what may not be.
	refusesX(t, api.ErrBound, api.X{L: []api.X{tower(64)}})
	refusesS(t, api.ErrBound, api.S{Op: api.ArmS, L: []api.S{towerS(64)}})
	refusesX(t, api.ErrBound, tower(1<<16))
}

func TestSize(t *testing.T) {
	const most = 65536
	l, e := spell.TokensX(cat(slices.Repeat([]api.X{a}, most-1)...))
	if e != api.OK || len(l) != 2*most-1 {
		t.Errorf("%d tokens, error %d", len(l), e)
	}
	refusesX(t, api.ErrBound, cat(slices.Repeat([]api.X{a}, most)...))
	l, e = spell.TokensS(block(slices.Repeat([]api.S{block()}, most-1)...), true)
	if e != api.OK || len(l) != 2*most {
		t.Errorf("%d tokens, error %d", len(l), e)
	}
	refusesS(t, api.ErrBound, block(slices.Repeat([]api.S{block()}, most)...))
	refusesS(t, api.ErrBound, arm(slices.Repeat([]api.X{a}, most)))
	l, e = spell.Tokens(items(slices.Repeat([]api.Item{{Op: api.InstI, Name: "u", Of: "n"}}, most-1)...))
	if e != api.OK || len(l) != 6+7*(most-1) {
		t.Errorf("%d tokens, error %d", len(l), e)
	}
	refusesFile(t, api.ErrBound, items(slices.Repeat([]api.Item{{Op: api.CombI}}, most)...))
	m := slices.Repeat([]api.Module{{Name: "m"}}, 65)
	spells(t, strings.TrimSpace(strings.Repeat("module m ( ) { } ", 64)), api.File{Modules: m[:64]})
	refusesFile(t, api.ErrBound, api.File{Modules: m})
	refusesFile(t, api.ErrBound, api.File{Modules: make([]api.Module, 65)})
}

// TestTreesWithoutEnd: where lists stand in themselves the calls are to end all the same.
func TestTreesWithoutEnd(t *testing.T) {
	ring := []api.X{un(api.NotO, a), a}
	ring[0].L = ring[:1]
	refusesX(t, api.ErrBound, ring[0])
	ringS := []api.S{block()}
	ringS[0].L = ringS
	refusesS(t, api.ErrBound, ringS[0])
	ringI := []api.Item{{Op: api.IfI, X: []api.X{a}}}
	ringI[0].Else = ringI
	refusesFile(t, api.ErrBound, items(ringI...))
}

// TestTextBound: a text of 65536 bytes is told, one more is not; the tokens are told all the same.
func TestTextBound(t *testing.T) {
	wires := slices.Repeat([]api.Item{{Op: api.WireI, Name: "a", X: []api.X{num(0, 1)}}}, 5040)
	f := items(wires...)
	want := "module m ( ) {\n" + strings.Repeat("wire a : 1 ;\n", 5040) + "}"
	if text, e := spell.Print(f); len(want) != 65536 || e != api.OK || string(text) != want {
		t.Errorf("%d bytes, error %d", len(text), e)
	}
	f.Modules[0].Name = "mm"
	text, e := spell.Print(f)
	refuses(t, "a file", api.ErrBound, text, e)
	if l, e := spell.Tokens(f); e != api.OK || len(l) != 6+5*5040 {
		t.Errorf("%d tokens, error %d", len(l), e)
	}
	x := cat(slices.Repeat([]api.X{a}, 16383)...)
	x.L[5000] = name("last")
	wantX := "{\n" + strings.Repeat("a , ", 5000) + "last" + strings.Repeat(" , a", 11382) + " }"
	if text, e := spell.PrintX(x); len(wantX) != 65536 || e != api.OK || string(text) != wantX {
		t.Errorf("%d bytes, error %d", len(text), e)
	}
	x.L[5000] = name("later")
	text, e = spell.PrintX(x)
	refuses(t, "an expression", api.ErrBound, text, e)
	if l, e := spell.TokensX(x); e != api.OK || len(l) != 2*16383+1 {
		t.Errorf("%d tokens, error %d", len(l), e)
	}
	// What may not be is told, however long the text would be.
	x.L[16382] = api.X{}
	refusesX(t, api.ErrArg, x)
	f.Modules[0].Items[5039].Name = ""
	refusesFile(t, api.ErrArg, f)
}
