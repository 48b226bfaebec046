package parse_test

import (
	"slices"
	"strings"
	"testing"

	"filigree/api"
	"filigree/parse"
)

// failsX wants an error of an expression's text, and of its tokens, both places being told.
func failsX(t *testing.T, text string, place, token int, e api.Errno) {
	t.Helper()
	x, at, f := parse.ParseX([]byte(text))
	failed(t, text, x, at, f, fault{place, e})
	x, at, f = parse.ReadX(tokens(t, text))
	failed(t, text, x, at, f, fault{token, e})
}

// fails wants likewise of a file.
func fails(t *testing.T, text string, place, token int, e api.Errno) {
	t.Helper()
	x, at, f := parse.Parse([]byte(text))
	failed(t, text, x, at, f, fault{place, e})
	x, at, f = parse.Read(tokens(t, text))
	failed(t, text, x, at, f, fault{token, e})
}

// failsAt wants that the token behind a mark, ^^, can't stand there; at the end it is the end that can't.
func failsAt(t *testing.T, marked string, check func(t *testing.T, text string, place, token int, e api.Errno)) {
	t.Helper()
	ahead, rest, ok := strings.Cut(marked, "^^")
	if !ok {
		t.Fatalf("%q has no mark", marked)
	}
	e := api.ErrWant
	if rest == "" {
		e = api.ErrEnd
	}
	check(t, ahead+rest, len(ahead), len(tokens(t, ahead)), e)
}

func TestWrongExpressions(t *testing.T) {
	for _, marked := range []string{
		"^^", "  // a\n^^", "a ^^a", "a ^^7", "7 ^^a", "a^^)", "a^^]", "a^^}", "a^^;", "a^^:b", "a^^,b", "a^^=b", "a^^..b", "a^^#", "a^^~b", "a^^!b", "a^^{b}", "a^^(b)", "7^^[1]", "8'h1^^[1]", "a ^^in", "a ^^zext(1,a)",
		"^^)", "^^]", "^^}", "^^;", "^^,", "^^:", "^^?", "^^=", "^^==", "^^*a", "^^+a", "^^<a", "^^<=a", "^^||a", "^^&&a", "^^..", "^^#", "^^[a]", "^^module", "^^else", "^^if",
		"a+^^", "a+^^*b", "a+^^)", "a&&^^&&b", "a||^^==b", "a*^^;", "~^^", "~^^)", "-~^^*", "!^^else",
		"(^^", "(^^)", "(a^^", "(a^^]", "(a^^}", "(a^^,b)", "(a^^:b)", "(a ^^b)", "((a)^^", "(a)^^)", "(a)^^(b)", "(a)^^[1]", "(a)^^{b}",
		"a[^^", "a[^^]", "a[b^^", "a[b^^)", "a[b^^,c]", "a[b:^^", "a[b:^^]", "a[b:c^^", "a[b:c^^:d]", "a[b]^^[c]", "a[b:c]^^[d]", "a[^^:b]", "a[b?c^^]", "a[b?c:d:a^^:b]",
		"{^^", "{^^}", "{a^^", "{a^^)", "{a^^;", "{a,^^", "{a,^^}", "{a,b^^", "{a,b^^{c}}", "{a{^^", "{a{^^}}", "{a{b^^", "{a{b}^^", "{a{b^^,c}}", "{a{b}^^,c}", "{a{b}^^{c}}", "{a{b}}^^}", "{a ^^b}", "{^^,a}", "{a}^^{b}", "{a}^^[1]",
		"zext^^", "zext ^^a", "zext^^[1]", "zext(^^", "zext(^^)", "zext(a^^", "zext(a^^)", "zext(a^^:b)", "zext(a,^^", "zext(a,^^)", "zext(a,b^^", "zext(a,b^^,c)", "sext(^^,a)", "sext(^^", "trunc(1,a)^^[0]", "trunc(1,a)^^)",
		"a?^^", "a?^^:b", "a?b^^", "a?b^^;", "a?b^^)", "a?b:^^", "a?b:^^)", "a?b:c^^:d", "a?b?c:d^^", "a?b?c:d:^^", "a?b?c:d:a^^:b", "a?^^?b:c", "(a?b^^)", "{a?b^^,c}", "a?b:c?d^^",
	} {
		failsAt(t, marked, failsX)
	}
}

func TestWrongFiles(t *testing.T) {
	for _, marked := range []string{
		"^^a", "^^7", "^^)", "^^}", "^^;", "^^{}", "^^wire w:1;", "module^^", "module^^(", "module ^^in", "module ^^module m(){}", "module ^^7", "module m^^", "module m^^{}", "module m ^^n", "module m^^;", "module m^^=",
		"module m#^^", "module m#^^{", "module m#^^N=1", "module m#(^^", "module m#(^^)(){}", "module m#(N^^", "module m#(N^^)", "module m#(N^^:1)", "module m#(N=^^", "module m#(N=^^)", "module m#(N=1^^", "module m#(N=1^^;", "module m#(N=1,^^", "module m#(N=1,^^)", "module m#(^^7=1)", "module m#(N=1)^^", "module m#(N=1)^^{}", "module m#(N=1)^^#(M=1)(){}", "module m#(N=1 ^^M=2)",
		"module m(^^", "module m(^^,", "module m(^^a:1)", "module m(in^^", "module m(in^^:1)", "module m(in ^^out a:1)", "module m(in a^^", "module m(in a^^)", "module m(in a^^=1)", "module m(in a^^,in b:1)", "module m(in a:^^", "module m(in a:^^)", "module m(in a:1^^", "module m(in a:1^^;", "module m(in a:1,^^", "module m(in a:1,^^)", "module m(in a:1,^^b:1)", "module m(in a:1 ^^in b:1)", "module m(out ^^7:1)", "module m()^^", "module m()^^;", "module m()^^()", "module m(){^^", "module m(){^^)", "module m(){}^^}", "module m(){}^^;", "module m(){} ^^in", "module m(){^^module n(){}}",
	} {
		failsAt(t, marked, fails)
	}
}

func TestWrongItems(t *testing.T) {
	for _, marked := range []string{
		"^^a=1;", "^^;", "^^{}", "^^else{}", "^^case(a){}", "^^tick{}", "^^in a:1;", "^^7", "^^(",
		"const^^", "const^^=1;", "const ^^in=1;", "const K^^", "const K^^:1;", "const K^^;", "const K=^^", "const K=^^;", "const K=1^^", "const K=1^^}", "const K=1^^,L=2;", "const K=1;^^;",
		"wire^^", "wire^^:1;", "wire w^^", "wire w^^=1;", "wire w^^;", "wire w^^[1]:1;", "wire w:^^", "wire w:^^;", "wire w:1^^", "wire w:1^^=2;", "wire w:1^^}", "wire w:1^^:1;", "wire w:1^^,",
		"reg^^", "reg^^:1=1;", "reg q^^", "reg q^^=1;", "reg q:1^^", "reg q:1^^;", "reg q:1=^^", "reg q:1=^^;", "reg q:1=1^^", "reg q:1=1^^=1;", "reg q:1=1^^:", "reg q:1<=1^^;",
		"assign^^", "assign ^^7=1;", "assign ^^(a)=1;", "assign ^^{a,b}=1;", "assign a^^", "assign a^^;", "assign a^^<=1;", "assign a^^==1;", "assign a^^+1=1;", "assign a[^^]=1;", "assign a[1^^=1;", "assign a[1]^^[2]=1;", "assign a=^^", "assign a=^^;", "assign a=1^^", "assign a=1^^}", "assign a=1^^=2;",
		"comb^^", "comb^^;", "comb^^(", "comb ^^tick{}", "comb ^^a=b;", "comb{^^", "comb{}^^else{}", "comb{}^^;", "comb{^^)", "comb{^^]", "comb{^^wire w:1;}", "comb{^^comb{}}",
		"on^^", "on^^{}", "on ^^on tick{}", "on ^^a", "on tick^^", "on tick^^;", "on tick ^^tick{}", "on tick ^^a<=b;", "on tick{^^", "on tick{}^^;",
		"inst^^", "inst^^:o();", "inst u^^", "inst u^^();", "inst u^^=o();", "inst u:^^", "inst u:^^();", "inst u:^^7();", "inst u:o^^", "inst u:o^^;", "inst u:o^^{}", "inst u:o#^^", "inst u:o#(^^", "inst u:o#(^^)();", "inst u:o#(N=1,^^)();", "inst u:o#(N=1)^^;", "inst u:o(^^", "inst u:o(^^,)", "inst u:o(p^^)", "inst u:o(p^^:a)", "inst u:o(p=^^)", "inst u:o(p=a^^", "inst u:o(p=a,^^)", "inst u:o(p=a ^^q=b)", "inst u:o()^^", "inst u:o()^^}", "inst u:o()^^{}", "inst u:o()^^()",
		"if^^", "if^^{}", "if ^^a{}", "if(^^", "if(^^){}", "if(a^^", "if(a^^;", "if(a)^^", "if(a)^^;", "if(a) ^^wire w:1;", "if(a) ^^comb{}", "if(a){^^", "if(a){^^a=b;}", "if(a){}else^^", "if(a){}else^^;", "if(a){}else ^^if(b){}", "if(a){}else{^^", "if(a){}else{}^^else{}", "if(a){}else{}^^;", "if(a){}^^;", "if(a){}^^{}",
		"for^^", "for^^(i=0..1){}", "for ^^7(i=0..1){}", "for l^^", "for l^^{}", "for l^^:(i=0..1){}", "for l(^^", "for l(^^){}", "for l(i^^", "for l(i^^:0..1){}", "for l(i=^^", "for l(i=^^..1){}", "for l(i=0^^", "for l(i=0^^){}", "for l(i=0^^:1){}", "for l(i=0..^^", "for l(i=0..^^){}", "for l(i=0..1^^", "for l(i=0..1^^..2){}", "for l(i=0..1^^;", "for l(i=0..1)^^", "for l(i=0..1)^^;", "for l(i=0..1){^^", "for l(i=0..1){}^^else{}", "for l(i=0..1){^^i=1;}",
		"check^^", "check^^:a;", "check c^^", "check c^^=a;", "check c^^;", "check c:^^", "check c:^^;", "check c:a^^", "check c:a^^}", "check c:a^^=b;",
	} {
		failsAt(t, "module m(){"+marked, fails)
		failsAt(t, "module m(){comb{}on tick{}"+marked, fails)
		failsAt(t, "module m(){if(1){}else{"+marked, fails)
		failsAt(t, "module n(){}module m(){for l(i=0..1){"+marked, fails)
	}
}

// TestWrongStatements goes through both kinds of blocks: a ~= stands for the sign of their assignments, a ~! for that of the other kind's.
func TestWrongStatements(t *testing.T) {
	for _, marked := range []string{
		"^^;", "^^7~=a;", "^^(a)~=b;", "{a^^}~=b;", "^^else{}", "^^in", "^^zext(1,a)~=b;", "^^assign a~=b;", "^^~a~=b;",
		"a^^", "a^^;", "a^^~!b;", "a^^==b;", "a^^:b;", "a^^+1~=b;", "a^^,b~=c;", "a^^(b)~=c;", "a[^^", "a[b^^", "a[b^^=c;", "a[b]^^", "a[b]^^;", "a[b]^^~!c;", "a[b:c]^^[d]~=a;", "a~=^^", "a~=^^;", "a~=b^^", "a~=b^^}", "a~=b^^=c;", "a~=b^^:c;", "a~=b;^^;", "a~= ^^~=b;",
		"if^^", "if^^{}", "if(^^", "if(^^)", "if(a^^", "if(a)^^", "if(a)^^;", "if(a) ^^a~=b;", "if(a) ^^if(b){}", "if(a){^^", "if(a){}else^^", "if(a){}else^^;", "if(a){}else ^^a~=b;", "if(a){}else ^^case(a){}", "if(a){}else ^^for(i=0..1){}", "if(a){}else ^^else{}", "if(a){}else{^^", "if(a){}else{}^^else{}", "if(a){}else if^^", "if(a){}else if^^{}", "if(a){}else if(b)^^", "if(a){}else if(b)^^;", "if(a){}else if(b){}else^^", "if(a){}else if(b){}else{}^^else{}", "if(a){}^^;", "if(a){a~=b;^^",
		"case^^", "case^^{}", "case(^^", "case(^^)", "case(a^^", "case(a)^^", "case(a)^^;", "case(a) ^^a~=b;", "case(a){^^", "case(a){^^:{}}", "case(a){^^,", "case(a){^^;", "case(a){1^^", "case(a){1^^}", "case(a){1^^;", "case(a){1^^{}}", "case(a){1,^^", "case(a){1,^^:{}}", "case(a){1 ^^2:{}}", "case(a){1:^^", "case(a){1:^^}", "case(a){1: ^^a~=b;}", "case(a){1:^^2:{}}", "case(a){1:{^^", "case(a){1:{}^^", "case(a){1:{}^^,", "case(a){1:{}^^;", "case(a){1:{}^^:", "case(a){else^^", "case(a){else^^{}}", "case(a){else ^^if(b){}}", "case(a){else:^^", "case(a){else:^^}", "case(a){else:{^^", "case(a){else:{}^^", "case(a){else:{}^^else:{}}", "case(a){else:{}^^1:{}}", "case(a){1:{}else^^,:{}}", "case(a){}^^;", "case(a){}^^else{}", "case(a){^^if(a){}}",
		"for^^", "for ^^l(i=0..1){}", "for(^^", "for(^^)", "for(^^7=0..1){}", "for(i^^", "for(i^^[0]=0..1){}", "for(i^^:0..1){}", "for(i=^^", "for(i=0^^", "for(i=0^^){}", "for(i=0^^,1){}", "for(i=0..^^", "for(i=0..^^){}", "for(i=0..1^^", "for(i=0..1^^..2){}", "for(i=0..1)^^", "for(i=0..1)^^;", "for(i=0..1) ^^a~=b;", "for(i=0..1){^^", "for(i=0..1){}^^else{}", "for(i=0..1){}^^;",
		"{^^", "{^^;", "{a^^", "{a~=b^^", "{}^^;", "{{}^^", "{^^)", "{^^]",
	} {
		comb := strings.NewReplacer("~=", "=", "~!", "<=").Replace(marked)
		tick := strings.NewReplacer("~=", "<=", "~!", "=").Replace(marked)
		for _, around := range []string{"", "{}a~=b;", "{", "if(a){}else{", "case(a){1,2:{}3:{", "for(i=0..1){"} {
			failsAt(t, "module m(){comb{"+strings.ReplaceAll(around, "~=", "=")+comb, fails)
			failsAt(t, "module m(){on tick{"+strings.ReplaceAll(around, "~=", "<=")+tick, fails)
		}
	}
}

func TestScanTellsFirst(t *testing.T) {
	long := strings.Repeat("a", 65)
	for text, want := range map[string]fault{
		"module $": {7, api.ErrChar}, ") ) 3x": {4, api.ErrDigits}, "; 65'h1": {2, api.ErrBig}, "] " + long: {2, api.ErrBound}, strings.Repeat(" ", 65537): {0, api.ErrBound}, strings.Repeat(")", 65537): {0, api.ErrBound}, strings.Repeat("(", 300) + "$": {300, api.ErrChar}, strings.Repeat("~", 100) + "a 8'h": {102, api.ErrDigits},
	} {
		f, place, e := parse.Parse([]byte(text))
		failed(t, text, f, place, e, want)
		x, place, e := parse.ParseX([]byte(text))
		failed(t, text, x, place, e, want)
	}
}

// wrongTokens may not be, each for a reason of its own.
func wrongTokens() []api.Token {
	return []api.Token{
		{}, {Kind: -1, S: "a"}, {Kind: 5, S: "a"}, {Kind: api.NameT}, {Kind: api.NameT, S: "in"}, {Kind: api.NameT, S: "module"}, {Kind: api.NameT, S: "0a"}, {Kind: api.NameT, S: "("}, {Kind: api.NameT, S: strings.Repeat("a", 65)}, {Kind: api.NameT, S: "a", At: -1}, {Kind: api.NameT, S: "a", W: 1},
		{Kind: api.WordT, S: "a"}, {Kind: api.WordT}, {Kind: api.WordT, S: "("}, {Kind: api.WordT, S: "module", V: 1}, {Kind: api.SignT}, {Kind: api.SignT, S: "."}, {Kind: api.SignT, S: "module"}, {Kind: api.SignT, S: "(", W: 4}, {Kind: api.SignT, S: "<<="},
		{Kind: api.NumT, S: "1"}, {Kind: api.NumT, W: -1}, {Kind: api.NumT, W: 65}, {Kind: api.NumT, W: 1, V: 2}, {Kind: api.NumT, W: 63, V: 1 << 63}, {Kind: api.NumT, At: -1},
	}
}

// TestTokensThatMayNotBe: the first of them is told, whatever else is wrong, and wherever.
func TestTokensThatMayNotBe(t *testing.T) {
	for _, wrong := range wrongTokens() {
		for _, text := range []string{"", "a", "a+b", "module m(){}", ")", "a )", strings.Repeat("(", 300), strings.Repeat("~", 100) + "a"} {
			l := tokens(t, text)
			for _, i := range []int{0, len(l) / 2, len(l)} {
				m := slices.Insert(slices.Clone(l), i, wrong)
				for _, m := range [][]api.Token{m, append(m, wrong)} {
					f, place, e := parse.Read(m)
					failed(t, m, f, place, e, fault{i, api.ErrArg})
					x, place, e := parse.ReadX(m)
					failed(t, m, x, place, e, fault{i, api.ErrArg})
				}
			}
		}
	}
}

// TestPlacesOfTokens: where tokens say that they stand does not matter to those who are handed tokens.
func TestPlacesOfTokens(t *testing.T) {
	l := tokens(t, "a+b")
	l[0].At, l[1].At, l[2].At = 1<<62, 7, 7
	x, place, e := parse.ReadX(l)
	if place != 0 || e != api.OK || x.Op != api.BinX {
		t.Error(x, place, e)
	}
	x, place, e = parse.ReadX(append(l, l[0]))
	failed(t, l, x, place, e, fault{3, api.ErrWant})
	x, place, e = parse.ReadX(l[:2])
	failed(t, l, x, place, e, fault{2, api.ErrEnd})
}
