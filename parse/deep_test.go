package parse_test

import (
	"slices"
	"strings"
	"testing"

	"filigree/api"
	"filigree/ast"
	"filigree/parse"
)

func times(n int, s string) string { return strings.Repeat(s, n) }

// TestOpenBrackets: of 256 brackets one can stand in the other, of 257 not.
func TestOpenBrackets(t *testing.T) {
	readsX(t, times(256, "(")+"a"+times(256, ")"), a)
	failsX(t, times(257, "(")+"a"+times(257, ")"), 256, 256, api.ErrDeep)
	failsX(t, times(257, "("), 256, 256, api.ErrDeep)
	failsX(t, times(256, "("), 256, 256, api.ErrEnd)
	failsX(t, times(256, "( ")+" (", 513, 256, api.ErrDeep)
	// What was closed counts no more.
	one := times(256, "(") + "a" + times(256, ")")
	readsX(t, one+"+"+one, bin(a, api.AddO, a))
	failsX(t, one+"+("+one, 770, 770, api.ErrDeep)
	readsX(t, times(255, "(")+"a[b]*c[d]"+times(255, ")"), bin(name("a", b), api.MulO, name("c", d)))
	failsX(t, times(256, "(")+"a[b]", 257, 257, api.ErrDeep)
	failsX(t, times(256, "(")+"{b}", 256, 256, api.ErrDeep)
	failsX(t, times(255, "(")+"{b{c}}", 257, 257, api.ErrDeep)
	failsX(t, times(255, "(")+"{b}{", 258, 258, api.ErrWant)
	failsX(t, times(256, "(")+"zext(1,a)", 260, 257, api.ErrDeep)
	failsX(t, times(256, "(")+"~(", 257, 257, api.ErrDeep)
	readsX(t, times(254, "(")+"{b{c}}"+times(254, ")"), rep(b, c))
	// Each kind of brackets counts, with the others.
	failsX(t, times(64, "({a[{1{"), 51*7+1, 51*7+1, api.ErrDeep)
	failsX(t, times(51, "({a[{1{")+"(,", 51*7+1, 51*7+1, api.ErrWant)
}

// TestBracketsThatCanNotStand: a bracket that can't stand where it stands is none that is too deep.
func TestBracketsThatCanNotStand(t *testing.T) {
	failsX(t, times(256, "(")+"a(", 257, 257, api.ErrWant)
	failsX(t, times(256, "(")+"a{", 257, 257, api.ErrWant)
	failsX(t, times(256, "(")+"7[", 257, 257, api.ErrWant)
	failsX(t, times(256, "(")+"[", 256, 256, api.ErrWant)
	failsX(t, times(256, "(")+"zext a(", 261, 257, api.ErrWant)
	failsX(t, times(256, "(")+")(", 256, 256, api.ErrWant)
	// What stands ahead is told ahead.
	failsX(t, times(200, "(")+"a a"+times(100, "("), 202, 201, api.ErrWant)
	failsX(t, times(257, "(")+"a a", 256, 256, api.ErrDeep)
}

func TestOpenBracketsOfFiles(t *testing.T) {
	deep := "module m(){comb{" + times(254, "{") + times(254, "}") + "}}"
	fails(t, deep, 0, 0, api.ErrDeep)
	fails(t, strings.Replace(deep, "{{", "{{{", 1), 16+254, 7+254, api.ErrDeep)
	fails(t, "module m(){comb{"+times(254, "{")+";", 16+254, 7+254, api.ErrWant)
	fails(t, "module m(){comb{"+times(254, "{")+"a[", 16+255, 7+255, api.ErrDeep)
	fails(t, "module m(){comb{"+times(254, "{")+"if(", 16+256, 7+255, api.ErrDeep)
	fails(t, "module m(){comb{"+times(254, "{")+"case(", 16+258, 7+255, api.ErrDeep)
	fails(t, "module m(){comb{"+times(254, "{")+"for(", 16+257, 7+255, api.ErrDeep)
}

// TestEachBracketCounts: one more bracket ahead makes each one that is too deep, one after the other.
func TestEachBracketCounts(t *testing.T) {
	luck, g := chance(6), readGrammar()
	inX := "zext(a[b],{c{d}})?{a,(b)}:c[1:(0)]"
	for n := 250; n <= 258; n++ {
		holds(t, expressions(), g, &luck, tokens(t, times(n, "(")+inX+times(n, ")")))
	}
	for _, item := range append(grammarParts(), "if(a){comb{}}else{comb{}}", "for l(i=0..1){comb{}}") {
		for n := 250; n <= 256; n++ {
			l := tokens(t, "module m(){"+times(n, "if(1){")+item+times(n, "}")+"}")
			want := g.fault(l, "file")
			if want.e == api.OK {
				want = fault{0, api.ErrDeep}
			}
			f, place, e := parse.Read(l)
			failed(t, item, f, place, e, want)
		}
	}
	for n := 240; n <= 256; n++ {
		l := tokens(t, times(n/8, "module m#(N=1)(in a:1){")+"module m#(N={1})(in a:{1}){}")
		holds(t, files(), g, &luck, l)
	}
}

// chain is texts in which n parts of one kind stand one within the other.
type chain struct {
	what  string
	text  func(n int) string
	least int // how deep the tree is, if n is 1
}

// expressionChains are expressions.
func expressionChains() []chain {
	return []chain{
		{"signs ahead", func(n int) string { return times(n, "~") + "a" }, 2},
		{"a row", func(n int) string { return "a" + times(n, "+a") }, 2},
		{"a row of two signs", func(n int) string { return "a" + times(n/2, "<b>=c") + times(n%2, "<d") }, 2},
		{"brackets behind", func(n int) string { return times(n, "a-(") + "a" + times(n, ")") }, 2},
		{"choices behind", func(n int) string { return times(n, "a?b:") + "c" }, 2},
		{"choices between", func(n int) string { return times(n, "a?") + "b" + times(n, ":c") }, 2},
		{"choices both ways", func(n int) string {
			return times(n/2, "a?b?") + times(n%2, "a?") + "b" + times(n/2, ":c:d") + times(n%2, ":c")
		}, 2},
		{"choices ahead", func(n int) string { return times(n, "(") + "a" + times(n, "?b:c)") }, 2},
		{"one bit", func(n int) string { return times(n, "a[") + "b" + times(n, "]") }, 2},
		{"some bits", func(n int) string { return times(n, "a[0:") + "b" + times(n, "]") }, 2},
		{"parts", func(n int) string { return times(n, "{a,") + "b" + times(n, "}") }, 2},
		{"so many times", func(n int) string { return times(n, "{2{") + "b" + times(n, "}}") }, 2},
		{"widths", func(n int) string { return times(n, "sext(8,") + "b" + times(n, ")") }, 2},
	}
}

// deepX wants that an expression is read up to a depth of 64, and not beyond it.
func deepX(t *testing.T, text string, depth int) {
	t.Helper()
	if depth > 64 {
		failsX(t, text, 0, 0, api.ErrDeep)
		failsX(t, " \n"+text, 0, 0, api.ErrDeep)
		fails(t, " module m(in a:"+text+"){}", 0, 0, api.ErrDeep)
		return
	}
	x, place, e := parse.ParseX([]byte(text))
	if place != 0 || e != api.OK || ast.CheckX(x) != api.OK {
		t.Errorf("%.100q of the depth %d is read with error %d at %d", text, depth, e, place)
	}
	if depth > 62 {
		// A module and its port stand around it.
		fails(t, "module m(in a:"+text+"){}", 0, 0, api.ErrDeep)
	} else if f, _, e := parse.Parse([]byte("module m(in a:" + text + "){}")); e != api.OK || ast.Deep(f) != depth+2 {
		t.Errorf("the depth of %.100q is %d, not %d", text, ast.Deep(f)-2, depth)
	}
}

func TestDeepExpressions(t *testing.T) {
	for _, kind := range expressionChains() {
		for n := 1; n <= 120; n++ {
			deepX(t, kind.text(n), n+kind.least-1)
		}
		// What is wrong with a token is told ahead of the whole.
		for _, n := range []int{63, 64, 65, 100} {
			text := kind.text(n)
			failsX(t, text+")", len(text), len(tokens(t, text)), api.ErrWant)
			failsX(t, text+"*", len(text)+1, len(tokens(t, text))+1, api.ErrEnd)
			failsX(t, "("+text, len(text)+1, len(tokens(t, text))+1, api.ErrEnd)
		}
	}
	// All rows have room for so many more signs ahead.
	row := "a||b&&c|d^a&b==c<d<<a+b*"
	for n := 40; n < 70; n++ {
		deepX(t, row+times(n, "!")+"c", n+11)
	}
}

// statementChains are statements.
func statementChains() []chain {
	return []chain{
		{"blocks", func(n int) string { return times(n, "{") + times(n, "}") }, 1},
		{"else ifs", func(n int) string { return "if(a){}" + times(n-1, "else if(a){}") }, 2},
		{"else ifs, and an else", func(n int) string { return "if(a){}" + times(n-1, "else if(a){}") + "else{}" }, 2},
		{"else ifs, and a statement", func(n int) string { return "if(a){}" + times(n-1, "else if(a){}") + "else{{}}" }, 3},
		{"loops", func(n int) string { return times(n, "for(i=0..1){") + times(n, "}") }, 2},
	}
}

func TestDeepStatements(t *testing.T) {
	for _, kind := range statementChains() {
		for n := 1; n <= 80; n++ {
			// A module and its item stand around it.
			depth := n - 1 + kind.least + 2
			text := " module m(){comb{" + kind.text(n) + "}}"
			if depth > 64 {
				fails(t, text, 0, 0, api.ErrDeep)
			} else if f, place, e := parse.Parse([]byte(text)); place != 0 || e != api.OK || ast.Deep(f) != depth {
				t.Errorf("%d %s: at %d error %d, and %d deep", n, kind.what, place, e, ast.Deep(f))
			}
			fails(t, text+"}", len(text), len(tokens(t, text)), api.ErrWant)
		}
	}
	for n := 1; n <= 80; n++ {
		// The condition stands in the last if.
		text := "module m(){" + times(n, "if(a){}else{") + times(n, "}") + "}"
		if f, place, e := parse.Parse([]byte(text)); n > 62 {
			failed(t, text, f, place, e, fault{0, api.ErrDeep})
		} else if place != 0 || e != api.OK || ast.Deep(f) != n+2 {
			t.Errorf("%d items: at %d error %d, and %d deep", n, place, e, ast.Deep(f))
		}
	}
}

// TestEndlesslyDeep: however many parts there would be in one another, a call ends, and tells what is wrong with the first token that is wrong, or with the whole.
func TestEndlesslyDeep(t *testing.T) {
	const n = 100000
	for _, piece := range []string{"~", "a+", "a?", "a?b:", "a<b==c&", "-a*"} {
		one := tokens(t, piece)
		l := slices.Repeat(one, n)
		x, place, e := parse.ReadX(l)
		failed(t, piece, x, place, e, fault{n * len(one), api.ErrEnd})
		l = append(l, tokens(t, "a")...)
		want := fault{0, api.ErrDeep}
		if piece == "a?" {
			l = append(l, slices.Repeat(tokens(t, ":b"), n)...)
		}
		x, place, e = parse.ReadX(l)
		failed(t, piece, x, place, e, want)
		want = fault{len(l), api.ErrWant}
		x, place, e = parse.ReadX(append(l, tokens(t, "]")...))
		failed(t, piece, x, place, e, want)
	}
	l := tokens(t, "module m(){comb{if(a){}")
	l = append(l, slices.Repeat(tokens(t, "else if(a){}"), n)...)
	f, place, e := parse.Read(l)
	failed(t, "ifs", f, place, e, fault{len(l), api.ErrEnd})
	f, place, e = parse.Read(append(l, tokens(t, "}}")...))
	failed(t, "ifs", f, place, e, fault{0, api.ErrDeep})
}

// TestLongTexts of one sign each end, too.
func TestLongTexts(t *testing.T) {
	for _, sign := range strings.Fields("~ - ! a; ( { a[ a? a?b: a+ a,") {
		text := times(api.MaxText/len(sign), sign)
		x, place, e := parse.ParseX([]byte(text))
		if e != api.ErrEnd && e != api.ErrWant && e != api.ErrDeep || place > len(text) || x.Op != 0 {
			t.Errorf("%q many times: at %d error %d", sign, place, e)
		}
	}
	readsX(t, times(32767, " \n")+"a", a)
	failsX(t, times(32768, " \n"), 65536, 0, api.ErrEnd)
}

func TestManyModules(t *testing.T) {
	f, place, e := parse.Parse([]byte(times(64, "module m(){}\n")))
	if len(f.Modules) != 64 || place != 0 || e != api.OK {
		t.Error(len(f.Modules), place, e)
	}
	fails(t, times(65, "\nmodule m(){}"), 0, 0, api.ErrBound)
	fails(t, times(65, "module m(){}")+"module", 65*12+6, 65*6+1, api.ErrEnd)
	fails(t, times(65, "module m(){}")+"}", 65*12, 65*6, api.ErrWant)
	// What is too deep is told ahead of what is too great.
	fails(t, times(64, "module m(){}")+"module m(in a:"+times(62, "~")+"a){}", 0, 0, api.ErrDeep)
	fails(t, times(64, "module m(){}")+"module m(in a:"+times(61, "~")+"a){}", 0, 0, api.ErrBound)
}

func TestManyNodes(t *testing.T) {
	parts := func(n int, x string) []api.Token {
		l := slices.Repeat(tokens(t, "a,"), n-1)
		return slices.Concat(tokens(t, "{"), l, tokens(t, x+"}"))
	}
	x, place, e := parse.ReadX(parts(65535, "a"))
	if len(x.L) != 65535 || place != 0 || e != api.OK {
		t.Error(len(x.L), place, e)
	}
	for _, l := range [][]api.Token{parts(65536, "a"), parts(65535, "~a"), parts(200000, "a")} {
		x, place, e = parse.ReadX(l)
		failed(t, "parts", x, place, e, fault{0, api.ErrBound})
	}
	x, place, e = parse.ReadX(parts(65536, times(63, "~")+"a"))
	failed(t, "parts", x, place, e, fault{0, api.ErrDeep})
	x, place, e = parse.ReadX(append(parts(65536, "a"), tokens(t, "a")...))
	failed(t, "parts", x, place, e, fault{2*65536 + 1, api.ErrWant})

	items := func(n int) []api.Token {
		return slices.Concat(tokens(t, "module m(){"), slices.Repeat(tokens(t, "comb{}"), n), tokens(t, "}"))
	}
	f, place, e := parse.Read(items(65535))
	if ast.Size(f) != 65536 || place != 0 || e != api.OK {
		t.Error(ast.Size(f), place, e)
	}
	f, place, e = parse.Read(items(65536))
	failed(t, "items", f, place, e, fault{0, api.ErrBound})
	f, place, e = parse.Read(items(65536)[:196000])
	failed(t, "items", f, place, e, fault{196000, api.ErrEnd})
}
