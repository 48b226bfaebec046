package spell_test

import (
	"fmt"
	"slices"
	"strings"
	"testing"

	"filigree/api"
	"filigree/scan"
	"filigree/spell"
)

func num(w int, v uint64) api.X { return api.X{Op: api.NumX, W: w, V: v} }

func name(s string, l ...api.X) api.X {
	return api.X{Op: []int{api.NameX, api.IndexX, api.SliceX}[len(l)], Name: s, L: l}
}

func op(kind, n int, l ...api.X) api.X { return api.X{Op: kind, N: n, L: l} }

func un(n int, x api.X) api.X { return op(api.UnX, n, x) }

func bin(x api.X, n int, y api.X) api.X { return op(api.BinX, n, x, y) }

func cond(x, y, z api.X) api.X { return op(api.CondX, 0, x, y, z) }

func cat(l ...api.X) api.X { return op(api.CatX, 0, l...) }

func rep(x, y api.X) api.X { return op(api.RepX, 0, x, y) }

func set(target, value api.X) api.S { return api.S{Op: api.AssignS, X: []api.X{target, value}} }

func block(l ...api.S) api.S { return api.S{Op: api.BlockS, L: l} }

func when(x api.X, so, not api.S) api.S {
	return api.S{Op: api.IfS, X: []api.X{x}, L: []api.S{so, not}}
}

func arm(labels []api.X, l ...api.S) api.S { return api.S{Op: api.ArmS, X: labels, L: l} }

func choose(x api.X, arms ...api.S) api.S { return api.S{Op: api.CaseS, X: []api.X{x}, L: arms} }

func items(l ...api.Item) api.File {
	return api.File{Modules: []api.Module{{Name: "m", Items: l}}}
}

func brief(tree any) string {
	s := fmt.Sprintf("%+v", tree)
	return s[:min(len(s), 400)]
}

// wanted is the tokens of a text, which stand nowhere.
func wanted(t *testing.T, text string) []api.Token {
	t.Helper()
	l, _, e := scan.Scan([]byte(text))
	if e != api.OK {
		t.Fatalf("%q is no text", text)
	}
	for i := range l {
		l[i].At = 0
	}
	return l
}

func tells(t *testing.T, tree any, got []api.Token, e api.Errno, want []api.Token) {
	t.Helper()
	if e != api.OK || !slices.Equal(got, want) {
		t.Errorf("the tokens of %s: %v, error %d, want %v", brief(tree), got, e, want)
	}
}

// spellsX wants the tokens, and the text, of an expression.
func spellsX(t *testing.T, want string, x api.X) {
	t.Helper()
	l, e := spell.TokensX(x)
	tells(t, x, l, e, wanted(t, want))
	tells(t, x, l, e, modelTokens(modelX(x)))
	text, e := spell.PrintX(x)
	if e != api.OK || string(text) != lined(want) {
		t.Errorf("the text of %s: %q, error %d, want %q", brief(x), text, e, lined(want))
	}
}

// lined is a text of tokens with blanks between, as it is to be printed.
func lined(text string) string {
	return strings.NewReplacer("; ", ";\n", "{ ", "{\n", "} ", "}\n").Replace(text)
}

// spellsS wants the tokens of a statement in both kinds of blocks; a ~= stands for the sign of its assignments.
func spellsS(t *testing.T, want string, s api.S) {
	t.Helper()
	for clocked, sign := range map[bool]string{false: "=", true: "<="} {
		l, e := spell.TokensS(s, clocked)
		tells(t, s, l, e, wanted(t, strings.ReplaceAll(want, "~=", sign)))
		tells(t, s, l, e, modelTokens(modelS(clocked)(s)))
	}
}

// spells wants the tokens, and the text, of a file.
func spells(t *testing.T, want string, f api.File) {
	t.Helper()
	l, e := spell.Tokens(f)
	tells(t, f, l, e, wanted(t, want))
	tells(t, f, l, e, modelTokens(modelFile(f)))
	text, e := spell.Print(f)
	if e != api.OK || string(text) != lined(want) {
		t.Errorf("the text of %s: %q, error %d, want %q", brief(f), text, e, lined(want))
	}
}

func spellsItem(t *testing.T, want string, i api.Item) {
	t.Helper()
	spells(t, "module m ( ) { "+want+" }", items(i))
	spells(t, "module m ( ) { "+want+" "+want+" }", items(i, i))
	one := []api.X{num(0, 1)}
	spells(t, "module m ( ) { if ( 1 ) { "+want+" "+want+" } }", items(api.Item{Op: api.IfI, X: one, L: []api.Item{i, i}}))
	spells(t, "module m ( ) { if ( 1 ) { } else { "+want+" } }", items(api.Item{Op: api.IfI, X: one, Else: []api.Item{i}}))
	spells(t, "module m ( ) { for l ( i = 1 .. 1 ) { "+want+" } }", items(api.Item{Op: api.ForI, Name: "l", Of: "i", X: []api.X{one[0], one[0]}, L: []api.Item{i}}))
}

var a, b, c = name("a"), name("b"), name("c")

func TestExamples(t *testing.T) {
	spellsX(t, "( a + b ) * c", bin(bin(a, api.AddO, b), api.MulO, c))
	spellsX(t, "a + b * c", bin(a, api.AddO, bin(b, api.MulO, c)))
	spellsX(t, "a - ( b - c )", bin(a, api.SubO, bin(b, api.SubO, c)))
}

func TestExpressions(t *testing.T) {
	long := strings.Repeat("n", 64)
	spellsX(t, "a", a)
	spellsX(t, "_Z9", name("_Z9"))
	spellsX(t, "ticks", name("ticks"))
	spellsX(t, long, name(long))
	spellsX(t, "0", num(0, 0))
	spellsX(t, "18446744073709551615", num(0, 1<<64-1))
	spellsX(t, "1'h0", num(1, 0))
	spellsX(t, "8'h3", num(8, 3))
	spellsX(t, "64'hffffffffffffffff", num(64, 1<<64-1))
	spellsX(t, "a [ b ]", name("a", b))
	spellsX(t, "a [ b : c ]", name("a", b, c))
	spellsX(t, "a ? b : c", cond(a, b, c))
	spellsX(t, "{ a }", cat(a))
	spellsX(t, "{ a , b , c }", cat(a, b, c))
	spellsX(t, "{ a { b } }", rep(a, b))
	spellsX(t, "zext ( a , b )", op(api.ExtX, api.ZextO, a, b))
	spellsX(t, "sext ( a , b )", op(api.ExtX, api.SextO, a, b))
	spellsX(t, "trunc ( a , b )", op(api.ExtX, api.CutO, a, b))
}

func TestSigns(t *testing.T) {
	for n, sign := range map[int]string{api.NotO: "~", api.NegO: "-", api.AllO: "&", api.AnyO: "|", api.OddO: "^", api.NoO: "!"} {
		spellsX(t, sign+" a", un(n, a))
		spellsX(t, sign+" "+sign+" a", un(n, un(n, a)))
	}
	for n, sign := range map[int]string{
		api.OneO: "||", api.BothO: "&&", api.OrO: "|", api.XorO: "^", api.AndO: "&", api.EqO: "==", api.NeO: "!=", api.LtO: "<", api.LeO: "<=", api.GtO: ">", api.GeO: ">=",
		api.ShlO: "<<", api.ShrO: ">>", api.AddO: "+", api.SubO: "-", api.MulO: "*",
	} {
		spellsX(t, "a "+sign+" b", bin(a, n, b))
		spellsX(t, "a "+sign+" b "+sign+" c", bin(bin(a, n, b), n, c))
		spellsX(t, "a "+sign+" ( b "+sign+" c )", bin(a, n, bin(b, n, c)))
	}
}

func TestBrackets(t *testing.T) {
	if3, sum := cond(a, b, c), bin(a, api.AddO, b)
	// A choice.
	spellsX(t, "( a ? b : c ) ? b : c", cond(if3, b, c))
	spellsX(t, "a ? a ? b : c : c", cond(a, if3, c))
	spellsX(t, "a ? b : a ? b : c", cond(a, b, if3))
	spellsX(t, "( a ? b : c ) || c", bin(if3, api.OneO, c))
	spellsX(t, "c * ( a ? b : c )", bin(c, api.MulO, if3))
	spellsX(t, "! ( a ? b : c )", un(api.NoO, if3))
	spellsX(t, "{ a ? b : c }", cat(if3))
	spellsX(t, "{ a ? b : c , a ? b : c }", cat(if3, if3))
	spellsX(t, "{ a ? b : c { a ? b : c } }", rep(if3, if3))
	spellsX(t, "zext ( a ? b : c , a ? b : c )", op(api.ExtX, api.ZextO, if3, if3))
	spellsX(t, "a [ a ? b : c ]", name("a", if3))
	spellsX(t, "a [ a ? b : c : a ? b : c ]", name("a", if3, if3))
	// An operation of two.
	spellsX(t, "a + b ? a + b : a + b", cond(sum, sum, sum))
	spellsX(t, "- ( a + b )", un(api.NegO, sum))
	spellsX(t, "{ a + b , a + b }", cat(sum, sum))
	spellsX(t, "{ a + b { a + b } }", rep(sum, sum))
	spellsX(t, "sext ( a + b , a + b )", op(api.ExtX, api.SextO, sum, sum))
	spellsX(t, "a [ a + b : a + b ]", name("a", sum, sum))
	spellsX(t, "a + b - c", bin(sum, api.SubO, c))
	spellsX(t, "c - ( a + b )", bin(c, api.SubO, sum))
	spellsX(t, "a + b << c", bin(sum, api.ShlO, c))
	spellsX(t, "c << a + b", bin(c, api.ShlO, sum))
	spellsX(t, "( a + b ) * ( a + b )", bin(sum, api.MulO, sum))
	spellsX(t, "a || b && c | a ^ b & c == a < b << c + a * b", bin(a, api.OneO, bin(b, api.BothO, bin(c, api.OrO, bin(a, api.XorO, bin(b, api.AndO, bin(c, api.EqO, bin(a, api.LtO, bin(b, api.ShlO, bin(c, api.AddO, bin(a, api.MulO, b)))))))))))
	// All others.
	spellsX(t, "~ a + ~ b", bin(un(api.NotO, a), api.AddO, un(api.NotO, b)))
	spellsX(t, "a & & b", bin(a, api.AndO, un(api.AllO, b)))
	spellsX(t, "- a * - b ? ! a : ! b", cond(bin(un(api.NegO, a), api.MulO, un(api.NegO, b)), un(api.NoO, a), un(api.NoO, b)))
	spellsX(t, "~ { a { b } }", un(api.NotO, rep(a, b)))
	spellsX(t, "~ zext ( a , b )", un(api.NotO, op(api.ExtX, api.ZextO, a, b)))
	spellsX(t, "{ { a } { { b } } }", rep(cat(a), cat(b)))
	spellsX(t, "{ { a { b } } }", cat(rep(a, b)))
	spellsX(t, "a [ b ] * a [ b : c ]", bin(name("a", b), api.MulO, name("a", b, c)))
}

func TestStatements(t *testing.T) {
	one := set(a, b)
	spellsS(t, "a ~= b ;", one)
	spellsS(t, "a [ b ] ~= b <= c ;", set(name("a", b), bin(b, api.LeO, c)))
	spellsS(t, "a [ b : c ] ~= a ? b : c ;", set(name("a", b, c), cond(a, b, c)))
	spellsS(t, "{ }", block())
	spellsS(t, "{ a ~= b ; { } a ~= b ; }", block(one, block(), one))
	spellsS(t, "for ( i = a .. b + c ) { }", api.S{Op: api.ForS, Name: "i", X: []api.X{a, bin(b, api.AddO, c)}})
	spellsS(t, "for ( i = 0 .. 3 ) { a ~= b ; { } }", api.S{Op: api.ForS, Name: "i", X: []api.X{num(0, 0), num(0, 3)}, L: []api.S{one, block()}})
}

func TestIf(t *testing.T) {
	one := set(a, b)
	spellsS(t, "if ( a ) { }", when(a, block(), block()))
	spellsS(t, "if ( a ) { }", when(a, api.S{Op: api.BlockS, L: []api.S{}}, api.S{Op: api.BlockS, L: []api.S{}}))
	spellsS(t, "if ( a ? b : c ) { a ~= b ; a ~= b ; }", when(cond(a, b, c), block(one, one), block()))
	spellsS(t, "if ( a ) { } else { a ~= b ; a ~= b ; }", when(a, block(), block(one, one)))
	spellsS(t, "if ( a ) { } else { { } }", when(a, block(), block(block())))
	spellsS(t, "if ( a ) { } else if ( b ) { }", when(a, block(), when(b, block(), block())))
	spellsS(t, "if ( a ) { } else { if ( b ) { } }", when(a, block(), block(when(b, block(), block()))))
	spellsS(t, "if ( a ) { if ( b ) { } } else { a ~= b ; }", when(a, block(when(b, block(), block())), block(one)))
	spellsS(t, "if ( a ) { if ( b ) { } else { a ~= b ; } }", when(a, block(when(b, block(), block(one))), block()))
	spellsS(t, "if ( a ) { a ~= b ; } else if ( b ) { a ~= b ; } else if ( c ) { } else { a ~= b ; }", when(a, block(one), when(b, block(one), when(c, block(), block(one)))))
}

func TestCase(t *testing.T) {
	one := set(a, b)
	spellsS(t, "case ( a ) { }", choose(a, arm(nil)))
	spellsS(t, "case ( a + b ) { else : { a ~= b ; a ~= b ; } }", choose(bin(a, api.AddO, b), arm(nil, one, one)))
	spellsS(t, "case ( a ) { else : { { } } }", choose(a, arm(nil, block())))
	spellsS(t, "case ( a ) { b : { } }", choose(a, arm([]api.X{b}), arm(nil)))
	spellsS(t, "case ( a ) { b : { } else : { a ~= b ; } }", choose(a, arm([]api.X{b}), arm(nil, one)))
	spellsS(t, "case ( a ) { a ? b : c , 2'h1 , { a } : { a ~= b ; { } } b : { } c : { a ~= b ; } }", choose(a, arm([]api.X{cond(a, b, c), num(2, 1), cat(a)}, one, block()), arm([]api.X{b}), arm([]api.X{c}, one), arm([]api.X{})))
	spellsS(t, "case ( a ) { a : { case ( b ) { else : { a ~= b ; } } } else : { case ( c ) { } } }", choose(a, arm([]api.X{a}, choose(b, arm(nil, one))), arm(nil, choose(c, arm(nil)))))
}

func TestItems(t *testing.T) {
	sum := bin(a, api.AddO, b)
	spellsItem(t, "const K = a + b ;", api.Item{Op: api.ConstI, Name: "K", X: []api.X{sum}})
	spellsItem(t, "wire w : a + b ;", api.Item{Op: api.WireI, Name: "w", X: []api.X{sum}})
	spellsItem(t, "reg q : a + b = a ? b : c ;", api.Item{Op: api.RegI, Name: "q", X: []api.X{sum, cond(a, b, c)}})
	spellsItem(t, "assign a [ b ] = a <= b ;", api.Item{Op: api.AssignI, X: []api.X{name("a", b), bin(a, api.LeO, b)}})
	spellsItem(t, "check ok : a == b ;", api.Item{Op: api.CheckI, Name: "ok", X: []api.X{bin(a, api.EqO, b)}})
	spellsItem(t, "comb { }", api.Item{Op: api.CombI})
	spellsItem(t, "on tick { }", api.Item{Op: api.TickI})
	l := []api.S{set(a, b), block(set(a, c)), when(a, block(set(b, a)), block())}
	spellsItem(t, "comb { a = b ; { a = c ; } if ( a ) { b = a ; } }", api.Item{Op: api.CombI, S: l})
	spellsItem(t, "on tick { a <= b ; { a <= c ; } if ( a ) { b <= a ; } }", api.Item{Op: api.TickI, S: l})
	spells(t, "module m ( ) { on tick { a <= b ; } comb { a = b ; } on tick { a <= b ; } assign a = b ; }",
		items(api.Item{Op: api.TickI, S: l[:1]}, api.Item{Op: api.CombI, S: l[:1]}, api.Item{Op: api.TickI, S: l[:1]}, api.Item{Op: api.AssignI, X: []api.X{a, b}}))
}

func TestItemsOfItems(t *testing.T) {
	comb, tick := api.Item{Op: api.CombI}, api.Item{Op: api.TickI}
	one, two := []api.Bind{{Name: "p", X: a}}, []api.Bind{{Name: "p", X: cond(a, b, c)}, {Name: "q", X: num(4, 10)}}
	spellsItem(t, "inst u : n ( ) ;", api.Item{Op: api.InstI, Name: "u", Of: "n"})
	spellsItem(t, "inst u : n ( p = a ) ;", api.Item{Op: api.InstI, Name: "u", Of: "n", Binds: one, Params: []api.Bind{}})
	spellsItem(t, "inst u : n # ( p = a ) ( ) ;", api.Item{Op: api.InstI, Name: "u", Of: "n", Params: one})
	spellsItem(t, "inst u : n # ( p = a ) ( p = a ? b : c , q = 4'ha ) ;", api.Item{Op: api.InstI, Name: "u", Of: "n", Params: one, Binds: two})
	spellsItem(t, "inst u : n # ( p = a ? b : c , q = 4'ha ) ( p = a ) ;", api.Item{Op: api.InstI, Name: "u", Of: "n", Params: two, Binds: one})
	spellsItem(t, "if ( a + b ) { }", api.Item{Op: api.IfI, X: []api.X{bin(a, api.AddO, b)}, Else: []api.Item{}})
	spellsItem(t, "if ( a ) { comb { } on tick { } }", api.Item{Op: api.IfI, X: []api.X{a}, L: []api.Item{comb, tick}})
	spellsItem(t, "if ( a ) { } else { comb { } on tick { } }", api.Item{Op: api.IfI, X: []api.X{a}, Else: []api.Item{comb, tick}})
	spellsItem(t, "if ( a ) { comb { } } else { if ( b ) { } else { comb { } } }", api.Item{Op: api.IfI, X: []api.X{a}, L: []api.Item{comb}, Else: []api.Item{{Op: api.IfI, X: []api.X{b}, Else: []api.Item{comb}}}})
	spellsItem(t, "for l ( i = a .. b + c ) { }", api.Item{Op: api.ForI, Name: "l", Of: "i", X: []api.X{a, bin(b, api.AddO, c)}})
	spellsItem(t, "for l ( i = a .. b ) { comb { } on tick { } }", api.Item{Op: api.ForI, Name: "l", Of: "i", X: []api.X{a, b}, L: []api.Item{comb, tick}})
}

func TestModules(t *testing.T) {
	spells(t, "", api.File{})
	spells(t, "", api.File{Modules: []api.Module{}})
	m := api.Module{Name: "m"}
	spells(t, "module m ( ) { }", api.File{Modules: []api.Module{m}})
	spells(t, "module m ( ) { } module n ( ) { } module m ( ) { }", api.File{Modules: []api.Module{m, {Name: "n", Params: []api.Bind{}, Ports: []api.Port{}, Items: []api.Item{}}, m}})
	m.Params = []api.Bind{{Name: "N", X: num(0, 3)}}
	spells(t, "module m # ( N = 3 ) ( ) { }", api.File{Modules: []api.Module{m}})
	m.Ports = []api.Port{{Name: "a", W: num(0, 1)}}
	spells(t, "module m # ( N = 3 ) ( in a : 1 ) { }", api.File{Modules: []api.Module{m}})
	m.Params = append(m.Params, api.Bind{Name: "K", X: cond(a, b, c)})
	m.Ports = append(m.Ports, api.Port{Name: "y", Out: true, W: bin(name("N"), api.AddO, num(0, 1))}, api.Port{Name: "b", W: cond(a, b, c)})
	m.Items = []api.Item{{Op: api.WireI, Name: "w", X: []api.X{num(0, 8)}}, {Op: api.CombI}}
	spells(t, "module m # ( N = 3 , K = a ? b : c ) ( in a : 1 , out y : N + 1 , in b : a ? b : c ) { wire w : 8 ; comb { } }", api.File{Modules: []api.Module{m}})
	m.Params = nil
	spells(t, "module m ( in a : 1 , out y : N + 1 , in b : a ? b : c ) { wire w : 8 ; comb { } }", api.File{Modules: []api.Module{m}})
}

// TestTextOfAFile holds a text as a whole: its line ends stand behind ; and { and }.
func TestTextOfAFile(t *testing.T) {
	m := api.Module{Name: "count", Params: []api.Bind{{Name: "N", X: num(0, 2)}}, Ports: []api.Port{{Name: "y", Out: true, W: name("N")}}, Items: []api.Item{
		{Op: api.RegI, Name: "q", X: []api.X{name("N"), num(0, 0)}},
		{Op: api.TickI, S: []api.S{set(name("q"), bin(name("q"), api.AddO, num(0, 1)))}},
		{Op: api.AssignI, X: []api.X{name("y"), name("q")}},
	}}
	const want = "module count # ( N = 2 ) ( out y : N ) {\nreg q : N = 0 ;\non tick {\nq <= q + 1 ;\n}\nassign y = q ;\n}"
	if text, e := spell.Print(api.File{Modules: []api.Module{m}}); e != api.OK || string(text) != want {
		t.Errorf("%q, error %d", text, e)
	}
	if text, e := spell.PrintX(rep(num(0, 2), cat(a, num(4, 15)))); e != api.OK || string(text) != "{\n2 {\n{\na , 4'hf }\n}\n}" {
		t.Errorf("%q, error %d", text, e)
	}
}
