package parse_test

import (
	"fmt"
	"math"
	"reflect"
	"slices"
	"strings"
	"testing"

	"filigree/api"
	"filigree/ast"
	"filigree/parse"
	"filigree/scan"
)

func num(w int, v uint64) api.X { return api.X{Op: api.NumX, W: w, V: v} }

func name(s string, l ...api.X) api.X {
	return api.X{Op: []int{api.NameX, api.IndexX, api.SliceX}[len(l)], Name: s, L: l}
}

func op(kind, n int, l ...api.X) api.X { return api.X{Op: kind, N: n, L: l} }

func un(n int, x api.X) api.X { return op(api.UnX, n, x) }

func bin(x api.X, n int, y api.X) api.X { return op(api.BinX, n, x, y) }

func cond(x, y, z api.X) api.X { return op(api.CondX, 0, x, y, z) }

func cat(l ...api.X) api.X { return op(api.CatX, 0, l...) }

func rep(x, y api.X) api.X { return op(api.RepX, 0, x, y) }

func set(target, value api.X) api.S { return api.S{Op: api.AssignS, X: []api.X{target, value}} }

func block(l ...api.S) api.S { return api.S{Op: api.BlockS, L: l} }

func when(x api.X, so, not api.S) api.S {
	return api.S{Op: api.IfS, X: []api.X{x}, L: []api.S{so, not}}
}

func arm(labels []api.X, l ...api.S) api.S { return api.S{Op: api.ArmS, X: labels, L: l} }

func choose(x api.X, arms ...api.S) api.S { return api.S{Op: api.CaseS, X: []api.X{x}, L: arms} }

func items(l ...api.Item) api.File {
	return api.File{Modules: []api.Module{{Name: "m", Items: l}}}
}

var a, b, c, d = name("a"), name("b"), name("c"), name("d")

func brief(tree any) string {
	s := fmt.Sprintf("%+v", tree)
	return s[:min(len(s), 400)]
}

func tokens(t *testing.T, text string) []api.Token {
	t.Helper()
	l, place, e := scan.Scan([]byte(text))
	if e != api.OK {
		t.Fatalf("%q is no text: error %d at %d", text, e, place)
	}
	return l
}

// told holds what a call tells against the tree that is wanted.
func told[N any](t *testing.T, text string, got N, place int, e api.Errno, want N, same func(a, b N) bool) {
	t.Helper()
	if !same(got, want) || place != 0 || e != api.OK {
		t.Errorf("%.300q is read as %s, at %d error %d, want %s", text, brief(got), place, e, brief(want))
	}
}

func readsX(t *testing.T, text string, want api.X) {
	t.Helper()
	got, place, e := parse.ParseX([]byte(text))
	told(t, text, got, place, e, want, ast.SameX)
	got, place, e = parse.ReadX(tokens(t, text))
	told(t, text, got, place, e, want, ast.SameX)
}

func reads(t *testing.T, text string, want api.File) {
	t.Helper()
	got, place, e := parse.Parse([]byte(text))
	told(t, text, got, place, e, want, ast.Same)
	got, place, e = parse.Read(tokens(t, text))
	told(t, text, got, place, e, want, ast.Same)
}

func readsItem(t *testing.T, text string, want api.Item) {
	t.Helper()
	reads(t, "module m(){"+text+"}", items(want))
	reads(t, "module m(){"+text+text+"}", items(want, want))
	reads(t, "module m(){if(1){"+text+"}else{"+text+text+"}}", items(api.Item{Op: api.IfI, X: []api.X{num(0, 1)}, L: []api.Item{want}, Else: []api.Item{want, want}}))
	reads(t, "module m(){for l(i=1..a){"+text+text+"}}", items(api.Item{Op: api.ForI, Name: "l", Of: "i", X: []api.X{num(0, 1), a}, L: []api.Item{want, want}}))
}

// readsS wants a statement in both kinds of blocks; a ~= stands for the sign of its assignments.
func readsS(t *testing.T, text string, want ...api.S) {
	t.Helper()
	comb, tick := strings.ReplaceAll(text, "~=", "="), strings.ReplaceAll(text, "~=", "<=")
	one := api.X{Op: api.NumX, V: 1}
	for _, s := range []struct {
		around string
		l      []api.S
	}{
		{"%", want},
		{"%%", append(slices.Clone(want), want...)},
		{"{%}", []api.S{block(want...)}},
		{"if(1){%}else{%}", []api.S{when(one, block(want...), block(want...))}},
		{"case(1){1:{%}else:{%}}", []api.S{choose(one, arm([]api.X{one}, want...), arm(nil, want...))}},
		{"for(i=1..1){%}", []api.S{{Op: api.ForS, Name: "i", X: []api.X{one, one}, L: want}}},
	} {
		reads(t, "module m(){comb{"+strings.ReplaceAll(s.around, "%", comb)+"}}", items(api.Item{Op: api.CombI, S: s.l}))
		reads(t, "module m(){on tick{"+strings.ReplaceAll(s.around, "%", tick)+"}}", items(api.Item{Op: api.TickI, S: s.l}))
	}
}

// fault is where a text is wrong, and how.
type fault struct {
	place int
	e     api.Errno
}

// failed holds what a call tells against an error, beside which nothing is to be told.
func failed[N any](t *testing.T, what any, got N, place int, e api.Errno, want fault) {
	t.Helper()
	if !reflect.ValueOf(got).IsZero() || place != want.place || e != want.e {
		t.Errorf("%s is read as %s, at %d error %d, want error %d at %d", brief(what), brief(got), place, e, want.e, want.place)
	}
}

func TestExamples(t *testing.T) {
	readsX(t, "a+8'd3*b", bin(a, api.AddO, bin(num(8, 3), api.MulO, b)))
	f, place, e := parse.Parse([]byte("module m(in a:1){"))
	failed(t, "the second one", f, place, e, fault{17, api.ErrEnd})
	f, place, e = parse.Parse([]byte("module m(a)"))
	failed(t, "the third one", f, place, e, fault{9, api.ErrWant})
	readsX(t, "a + b * c", bin(a, api.AddO, bin(b, api.MulO, c)))
	readsX(t, "a + (b * c)", bin(a, api.AddO, bin(b, api.MulO, c)))
}

func TestNumbersAndNames(t *testing.T) {
	readsX(t, "0", num(0, 0))
	readsX(t, "18446744073709551615", num(0, math.MaxUint64))
	readsX(t, "8'hff", num(8, 255))
	readsX(t, "1'b0", num(1, 0))
	readsX(t, "64'hffffffffffffffff", num(64, math.MaxUint64))
	readsX(t, "a", a)
	readsX(t, "  _9 // a\n", name("_9"))
	readsX(t, strings.Repeat("n", 64), name(strings.Repeat("n", 64)))
	readsX(t, "ins", name("ins"))
}

func TestTargets(t *testing.T) {
	readsX(t, "a[b]", name("a", b))
	readsX(t, "a[7:4]", name("a", num(0, 7), num(0, 4)))
	readsX(t, "a[b[c]]", name("a", name("b", c)))
	readsX(t, "a[b[3:0]:c[d]]", name("a", name("b", num(0, 3), num(0, 0)), name("c", d)))
	readsX(t, "a[b+1:c?b:d]", name("a", bin(b, api.AddO, num(0, 1)), cond(c, b, d)))
	readsX(t, "a[b?c:d]", name("a", cond(b, c, d)))
	readsX(t, "a[b?c:d:0]", name("a", cond(b, c, d), num(0, 0)))
	readsX(t, "a[(b):(c)]", name("a", b, c))
}

func TestBraces(t *testing.T) {
	readsX(t, "{a}", cat(a))
	readsX(t, "{a,b}", cat(a, b))
	readsX(t, "{a,b?c:d,{c},d}", cat(a, cond(b, c, d), cat(c), d))
	readsX(t, "{3{a}}", rep(num(0, 3), a))
	readsX(t, "{a+b{c}}", rep(bin(a, api.AddO, b), c))
	readsX(t, "{a?b:c{d}}", rep(cond(a, b, c), d))
	readsX(t, "{2{{a,b}}}", rep(num(0, 2), cat(a, b)))
	readsX(t, "{{a}{b}}", rep(cat(a), b))
}

func TestWidths(t *testing.T) {
	readsX(t, "zext(8,a)", op(api.ExtX, api.ZextO, num(0, 8), a))
	readsX(t, "sext(a+1,b?c:d)", op(api.ExtX, api.SextO, bin(a, api.AddO, num(0, 1)), cond(b, c, d)))
	readsX(t, "trunc(1,trunc(2,a))", op(api.ExtX, api.CutO, num(0, 1), op(api.ExtX, api.CutO, num(0, 2), a)))
	readsX(t, "~zext(8,a)*b", bin(un(api.NotO, op(api.ExtX, api.ZextO, num(0, 8), a)), api.MulO, b))
}

func TestOperationsOfOne(t *testing.T) {
	for sign, n := range map[string]int{"~": api.NotO, "-": api.NegO, "&": api.AllO, "|": api.AnyO, "^": api.OddO, "!": api.NoO} {
		readsX(t, sign+"a", un(n, a))
		readsX(t, sign+" "+sign+" a[b]", un(n, un(n, name("a", b))))
		readsX(t, sign+"(a+b)", un(n, bin(a, api.AddO, b)))
		readsX(t, sign+"a*b", bin(un(n, a), api.MulO, b))
		readsX(t, "a*"+sign+"b", bin(a, api.MulO, un(n, b)))
		readsX(t, "a- -"+sign+"~7", bin(a, api.SubO, un(api.NegO, un(n, un(api.NotO, num(0, 7))))))
		readsX(t, sign+"{a,"+sign+"b}", un(n, cat(a, un(n, b))))
		readsX(t, sign+"a?"+sign+"b:"+sign+"c", cond(un(n, a), un(n, b), un(n, c)))
	}
	readsX(t, "~-&|^!a", un(api.NotO, un(api.NegO, un(api.AllO, un(api.AnyO, un(api.OddO, un(api.NoO, a)))))))
	readsX(t, "a & &b && &c", bin(bin(a, api.AndO, un(api.AllO, b)), api.BothO, un(api.AllO, c)))
	readsX(t, "a | |b || |c", bin(bin(a, api.OrO, un(api.AnyO, b)), api.OneO, un(api.AnyO, c)))
	readsX(t, "a^^b", bin(a, api.XorO, un(api.OddO, b)))
	readsX(t, "a--b", bin(a, api.SubO, un(api.NegO, b)))
	readsX(t, "a!=!b", bin(a, api.NeO, un(api.NoO, b)))
}

func TestChoices(t *testing.T) {
	readsX(t, "a?b:c", cond(a, b, c))
	readsX(t, "a?b:c?d:a", cond(a, b, cond(c, d, a)))
	readsX(t, "a?b?c:d:a", cond(a, cond(b, c, d), a))
	readsX(t, "a?b?c:d:b?d:c", cond(a, cond(b, c, d), cond(b, d, c)))
	readsX(t, "a?b?c?d:a:b:c", cond(a, cond(b, cond(c, d, a), b), c))
	readsX(t, "a?b:c?d?a:b:c", cond(a, b, cond(c, cond(d, a, b), c)))
	readsX(t, "(a?b:c)?b:c", cond(cond(a, b, c), b, c))
	readsX(t, "a||b?c||d:a||c", cond(bin(a, api.OneO, b), bin(c, api.OneO, d), bin(a, api.OneO, c)))
	readsX(t, "a+(b?c:d)*a", bin(a, api.AddO, bin(cond(b, c, d), api.MulO, a)))
	readsX(t, "a?b:c+d", cond(a, b, bin(c, api.AddO, d)))
}

func TestBrackets(t *testing.T) {
	readsX(t, "(a)", a)
	readsX(t, "((((8'h3))))", num(8, 3))
	readsX(t, "((a)+((b)))", bin(a, api.AddO, b))
	readsX(t, "(a+b)*c", bin(bin(a, api.AddO, b), api.MulO, c))
	readsX(t, "a-(b-c)", bin(a, api.SubO, bin(b, api.SubO, c)))
	readsX(t, "a-b-c", bin(bin(a, api.SubO, b), api.SubO, c))
	readsX(t, "~(~(a))", un(api.NotO, un(api.NotO, a)))
}

func TestModules(t *testing.T) {
	reads(t, "", api.File{})
	reads(t, " // nothing", api.File{})
	reads(t, "module m(){}", api.File{Modules: []api.Module{{Name: "m"}}})
	reads(t, "module m(){}module n(){}\nmodule m(){}", api.File{Modules: []api.Module{{Name: "m"}, {Name: "n"}, {Name: "m"}}})
	reads(t, "module m(in a:1){}", api.File{Modules: []api.Module{{Name: "m", Ports: []api.Port{{Name: "a", W: num(0, 1)}}}}})
	reads(t, "module m(out a:b+1,in b:c?a:d,out c:8'h1){}", api.File{Modules: []api.Module{{Name: "m", Ports: []api.Port{{Name: "a", Out: true, W: bin(b, api.AddO, num(0, 1))}, {Name: "b", W: cond(c, a, d)}, {Name: "c", Out: true, W: num(8, 1)}}}}})
	reads(t, "module m#(N=4)(){}", api.File{Modules: []api.Module{{Name: "m", Params: []api.Bind{{Name: "N", X: num(0, 4)}}}}})
	reads(t, "module m#(N=4,M=N?a:b)(in a:N){const K=M;}", api.File{Modules: []api.Module{{Name: "m", Params: []api.Bind{{Name: "N", X: num(0, 4)}, {Name: "M", X: cond(name("N"), a, b)}}, Ports: []api.Port{{Name: "a", W: name("N")}}, Items: []api.Item{{Op: api.ConstI, Name: "K", X: []api.X{name("M")}}}}}})
}

func TestItems(t *testing.T) {
	readsItem(t, "const K=a+1;", api.Item{Op: api.ConstI, Name: "K", X: []api.X{bin(a, api.AddO, num(0, 1))}})
	readsItem(t, "wire w:8;", api.Item{Op: api.WireI, Name: "w", X: []api.X{num(0, 8)}})
	readsItem(t, "wire w:a?b:c;", api.Item{Op: api.WireI, Name: "w", X: []api.X{cond(a, b, c)}})
	readsItem(t, "reg q:2=2'h3;", api.Item{Op: api.RegI, Name: "q", X: []api.X{num(0, 2), num(2, 3)}})
	readsItem(t, "reg q:a==b=c==d;", api.Item{Op: api.RegI, Name: "q", X: []api.X{bin(a, api.EqO, b), bin(c, api.EqO, d)}})
	readsItem(t, "assign a=b;", api.Item{Op: api.AssignI, X: []api.X{a, b}})
	readsItem(t, "assign a[b]=b<=c;", api.Item{Op: api.AssignI, X: []api.X{name("a", b), bin(b, api.LeO, c)}})
	readsItem(t, "assign a[7:0]={b,c};", api.Item{Op: api.AssignI, X: []api.X{name("a", num(0, 7), num(0, 0)), cat(b, c)}})
	readsItem(t, "comb{}", api.Item{Op: api.CombI})
	readsItem(t, "comb{a=b;{}}", api.Item{Op: api.CombI, S: []api.S{set(a, b), block()}})
	readsItem(t, "on tick{}", api.Item{Op: api.TickI})
	readsItem(t, "on tick{a<=b;a[c]<=d;}", api.Item{Op: api.TickI, S: []api.S{set(a, b), set(name("a", c), d)}})
	readsItem(t, "check c:a==b;", api.Item{Op: api.CheckI, Name: "c", X: []api.X{bin(a, api.EqO, b)}})
}

// TestBothKindsOfBlocks: what stands behind a block of one kind is read as its own kind wants it.
func TestBothKindsOfBlocks(t *testing.T) {
	comb, tick := api.Item{Op: api.CombI, S: []api.S{set(a, b)}}, api.Item{Op: api.TickI, S: []api.S{set(a, b)}}
	reads(t, "module m(){on tick{a<=b;}comb{a=b;}assign a=b;on tick{a<=b;}}", items(tick, comb, api.Item{Op: api.AssignI, X: []api.X{a, b}}, tick))
}

func TestInstances(t *testing.T) {
	readsItem(t, "inst u:o();", api.Item{Op: api.InstI, Name: "u", Of: "o"})
	readsItem(t, "inst u:o(p=a);", api.Item{Op: api.InstI, Name: "u", Of: "o", Binds: []api.Bind{{Name: "p", X: a}}})
	readsItem(t, "inst u:o#(N=1)();", api.Item{Op: api.InstI, Name: "u", Of: "o", Params: []api.Bind{{Name: "N", X: num(0, 1)}}})
	readsItem(t, "inst u:o#(N=1,M=a?b:c)(p=a==b,q={c});", api.Item{Op: api.InstI, Name: "u", Of: "o", Params: []api.Bind{{Name: "N", X: num(0, 1)}, {Name: "M", X: cond(a, b, c)}}, Binds: []api.Bind{{Name: "p", X: bin(a, api.EqO, b)}, {Name: "q", X: cat(c)}}})
}

func TestItemsOfItems(t *testing.T) {
	wire, comb := api.Item{Op: api.WireI, Name: "w", X: []api.X{num(0, 1)}}, api.Item{Op: api.CombI}
	one := []api.X{a}
	readsItem(t, "if(a){}", api.Item{Op: api.IfI, X: one})
	readsItem(t, "if(a){}else{}", api.Item{Op: api.IfI, X: one})
	readsItem(t, "if(a){wire w:1;comb{}}", api.Item{Op: api.IfI, X: one, L: []api.Item{wire, comb}})
	readsItem(t, "if(a){}else{wire w:1;comb{}}", api.Item{Op: api.IfI, X: one, Else: []api.Item{wire, comb}})
	readsItem(t, "if(a){comb{}}else{if(a){wire w:1;}else{comb{}}}", api.Item{Op: api.IfI, X: one, L: []api.Item{comb}, Else: []api.Item{{Op: api.IfI, X: one, L: []api.Item{wire}, Else: []api.Item{comb}}}})
	readsItem(t, "for l(i=0..2){}", api.Item{Op: api.ForI, Name: "l", Of: "i", X: []api.X{num(0, 0), num(0, 2)}})
	readsItem(t, "for l(i=a+1..b?c:d){wire w:1;for k(j=a..b){comb{}}}", api.Item{Op: api.ForI, Name: "l", Of: "i", X: []api.X{bin(a, api.AddO, num(0, 1)), cond(b, c, d)}, L: []api.Item{wire, {Op: api.ForI, Name: "k", Of: "j", X: []api.X{a, b}, L: []api.Item{comb}}}})
}

func TestStatements(t *testing.T) {
	readsS(t, "")
	readsS(t, "a~=b;", set(a, b))
	readsS(t, "a~=b;b~=c<=d;", set(a, b), set(b, bin(c, api.LeO, d)))
	readsS(t, "a[b<=c]~=b;", set(name("a", bin(b, api.LeO, c)), b))
	readsS(t, "a[b:c]~=b?c:d;", set(name("a", b, c), cond(b, c, d)))
	readsS(t, "{}", block())
	readsS(t, "{a~=b;{}{a~=b;}}", block(set(a, b), block(), block(set(a, b))))
	readsS(t, "for(i=0..b){a~=b;{}}", api.S{Op: api.ForS, Name: "i", X: []api.X{num(0, 0), b}, L: []api.S{set(a, b), block()}})
	readsS(t, "for(i=0..a?b:c){}", api.S{Op: api.ForS, Name: "i", X: []api.X{num(0, 0), cond(a, b, c)}})
}

func TestIfs(t *testing.T) {
	readsS(t, "if(a){}", when(a, block(), block()))
	readsS(t, "if(a){}else{}", when(a, block(), block()))
	readsS(t, "if(a){a~=b;}", when(a, block(set(a, b)), block()))
	readsS(t, "if(a){}else{a~=b;}", when(a, block(), block(set(a, b))))
	readsS(t, "if(a){}else if(b){}", when(a, block(), when(b, block(), block())))
	readsS(t, "if(a){}else{if(b){}}", when(a, block(), block(when(b, block(), block()))))
	readsS(t, "if(a){}if(b){}", when(a, block(), block()), when(b, block(), block()))
	readsS(t, "if(a){}else{}if(b){}", when(a, block(), block()), when(b, block(), block()))
	readsS(t, "if(a){a~=b;}else if(b){b~=c;}else if(c){}else{c~=d;}", when(a, block(set(a, b)), when(b, block(set(b, c)), when(c, block(), block(set(c, d))))))
	readsS(t, "if(a){if(b){}}else if(c){}", when(a, block(when(b, block(), block())), when(c, block(), block())))
}

func TestCases(t *testing.T) {
	readsS(t, "case(a){}", choose(a, arm(nil)))
	readsS(t, "case(a){else:{}}", choose(a, arm(nil)))
	readsS(t, "case(a){else:{a~=b;{}}}", choose(a, arm(nil, set(a, b), block())))
	readsS(t, "case(a){1:{}}", choose(a, arm([]api.X{num(0, 1)}), arm(nil)))
	readsS(t, "case(a){1,b+1:{a~=b;}c?b:d:{}}", choose(a, arm([]api.X{num(0, 1), bin(b, api.AddO, num(0, 1))}, set(a, b)), arm([]api.X{cond(c, b, d)}), arm(nil)))
	readsS(t, "case(a){b:{}c:{}else:{a~=c;}}", choose(a, arm([]api.X{b}), arm([]api.X{c}), arm(nil, set(a, c))))
	readsS(t, "case(a){b:{case(c){else:{a~=b;}}}}", choose(a, arm([]api.X{b}, choose(c, arm(nil, set(a, b)))), arm(nil)))
	readsS(t, "case(a){(b):{}{b}:{}~b:{}}", choose(a, arm([]api.X{b}), arm([]api.X{cat(b)}), arm([]api.X{un(api.NotO, b)}), arm(nil)))
}
