package elab_test

import (
	"reflect"
	"slices"
	"strings"
	"testing"

	"filigree/api"
	"filigree/elab"
)

const adder = `module m # ( N = 2 ) ( in a : N , out y : N ) { assign y = a + N ; }
	module t ( out y : 2 ) { inst u : m ( a = 1 , y = y ) ; }`

// TestExamples holds the chapter's two designs field by field.
func TestExamples(t *testing.T) {
	bits := func(signal int) api.E { return api.E{Op: api.SigE, Sig: signal, Hi: 1} }
	number := func(v uint64) api.E { return api.E{Op: api.NumE, V: v} }
	drives := func(signal int, e api.E) api.Proc {
		return api.Proc{L: []api.T{{Op: api.AssignT, Sig: signal, Hi: 1, E: []api.E{e}}}}
	}
	sum := func(signal int) api.E {
		return api.E{Op: api.BinE, N: api.AddO, L: []api.E{bits(signal), number(2)}}
	}
	for top, want := range map[string]api.Flat{
		"m": {
			Signals: []api.Signal{{Name: "a", W: 2, Kind: api.InK}, {Name: "y", W: 2, Kind: api.OutK}},
			Procs:   []api.Proc{drives(1, sum(0))},
		},
		"t": {
			Signals: []api.Signal{{Name: "y", W: 2, Kind: api.OutK}, {Name: "u.a", W: 2, Kind: api.WireK}, {Name: "u.y", W: 2, Kind: api.WireK}},
			Procs:   []api.Proc{drives(1, number(1)), drives(2, sum(1)), drives(0, bits(2))},
		},
	} {
		if d, e := elab.Elab(file(t, adder), top, nil); e != api.OK || !reflect.DeepEqual(d, want) {
			t.Errorf("%s: %+v, error %d", top, d, e)
		}
	}
	lays(t, adder, "m", "in a:2, out y:2 / {y[1:0] = add(a[1:0], 2)} / ")
	lays(t, adder, "t", "out y:2, wire u.a:2, wire u.y:2 / {u.a[1:0] = 1} {u.y[1:0] = add(u.a[1:0], 2)} {y[1:0] = u.y[1:0]} / ")
}

// TestLoopOfWires holds an example of the whole: a label and a number stand in front of what a pass tells.
func TestLoopOfWires(t *testing.T) {
	lays(t, `module m(){for l(i=0..2){wire b:1;}}`, "m", "wire l[0].b:1, wire l[1].b:1 /  / ")
}

// body lays out a module's items behind some ports.
func body(t *testing.T, items, want string) {
	t.Helper()
	lays(t, `module m(in a:8,in b:1,out y:8){`+items+`}`, "m", "in a:8, in b:1, out y:8"+want)
}

func TestParams(t *testing.T) {
	const text = `module m#(A=2,B=A+1,C=A*B)(in a:A,in b:B,out c:C){}`
	lays(t, text, "m", "in a:2, in b:3, out c:6 /  / ")
	lays(t, text, "m", "in a:4, in b:5, out c:20 /  / ", api.Named{Name: "A", V: 4})
	lays(t, text, "m", "in a:2, in b:9, out c:18 /  / ", api.Named{Name: "B", V: 9})
	lays(t, text, "m", "in a:2, in b:1, out c:64 /  / ", api.Named{Name: "C", V: 64}, api.Named{Name: "B", V: 1})
	lays(t, text, "m", "in a:7, in b:1, out c:7 /  / ", api.Named{Name: "B", V: 1}, api.Named{Name: "A", V: 7})
	const told = `module m#(A=z,B=1-2,C=8'h1)(){check c:{A,B,C};}`
	all := []api.Named{{Name: "C", V: api.MaxConst}, {Name: "A", V: 0}, {Name: "B", V: 5}}
	lays(t, told, "m", " /  / c: cat(0, 5, 2147483647)", all...)
	lays(t, `module m#(A=1)(){} module n#(A=2)(in a:A){}`, "n", "in a:3 /  / ", api.Named{Name: "A", V: 3})
}

func TestItems(t *testing.T) {
	body(t, ``, " /  / ")
	body(t, `const C=3; const D=C<<1; wire w:D; wire v:D-C;`, ", wire w:6, wire v:3 /  / ")
	body(t, `reg q:4=5; reg r:2=8'hff; reg s:64=18446744073709551615; const C=7; reg u:C=C+2;`, ", reg q:4=5, reg r:2=255, reg s:64=18446744073709551615, reg u:7=9 /  / ")
	body(t, `assign y=a; assign y[3:2]=b; assign y[7]=1'b1;`, " / {y[7:0] = a[7:0]} {y[3:2] = b[0:0]} {y[7:7] = 1'1} / ")
	body(t, `wire w:3; assign w[2:0]=1; const C=1; assign w[C+1:C]=C; assign w[C]=w;`, ", wire w:3 / {w[2:0] = 1} {w[2:1] = 1} {w[1:1] = w[2:0]} / ")
	body(t, `comb{y=a;} on tick{} reg q:1=0; on tick{q<=b;} comb{}`, ", reg q:1=0 / {y[7:0] = a[7:0]} tick{} tick{q[0:0] = b[0:0]} {} / ")
	body(t, `check c:a==0; check d:b; wire w:1; check e:w;`, ", wire w:1 /  / c: eq(a[7:0], 0), d: b[0:0], e: w[0:0]")
}

func TestChoices(t *testing.T) {
	body(t, `if(1){wire w:1;}else{wire w:2;} check c:w;`, ", wire w:1 /  / c: w[0:0]")
	body(t, `if(0){wire w:1;}else{wire w:2;} check c:w;`, ", wire w:2 /  / c: w[1:0]")
	body(t, `if(7){const C=3;} check c:C;`, " /  / c: 3")
	body(t, `if(0){wire w:0; assign z=z;} check c:0;`, " /  / c: 0")
	body(t, `if(0){}else{if(2>1){const C=4; if(C==4){check c:C;}}else{check d:0;}}`, " /  / c: 4")
}

func TestLoops(t *testing.T) {
	body(t, `for l(i=2..4){wire w:i; check c:w==i;}`, ", wire l[2].w:2, wire l[3].w:3 /  / l[2].c: eq(l[2].w[1:0], 2), l[3].c: eq(l[3].w[2:0], 3)")
	body(t, `for l(i=3..3){wire w:1;} for k(i=9..2){wire w:1;} for n(i=0..1){wire w:1;}`, ", wire n[0].w:1 /  / ")
	body(t, `const N=2; for l(i=N-1..N+1){const C=i*N; if(i==1){check odd:C;}else{check even:C;}}`, " /  / l[1].odd: 2, l[2].even: 4")
	body(t, `for l(i=0..2){for k(j=i..2){wire w:i+j+1;}}`, ", wire l[0].k[0].w:1, wire l[0].k[1].w:2, wire l[1].k[1].w:3 /  / ")
	body(t, `wire w:4; for l(i=0..2){assign w[i*2+1:i*2]=a[i];}`, ", wire w:4 / {w[1:0] = a(0)} {w[3:2] = a(1)} / ")
	body(t, `for l(i=2147483646..2147483647){check c:i;} for k(i=10..11){check c:i;}`, " /  / l[2147483646].c: 2147483646, k[10].c: 10")
	body(t, `if(1){for _long_Label9(i=0..1){wire w:1;}}else{for _long_Label9(i=0..1){wire w:2;}}`, ", wire _long_Label9[0].w:1 /  / ")
}

// TestPassesAreApart: what one pass tells stands in no other one, nor behind the loop.
func TestPassesAreApart(t *testing.T) {
	const text = `module m(){for l(i=0..2){if(i==0){wire w:1;}else{assign w=1;}}}`
	fails(t, text, "m", api.ErrNoName)
	fails(t, `module m(){for l(i=0..2){if(i==0){const C=1;}else{wire w:C;}}}`, "m", api.ErrFree)
	fails(t, `module m(){for l(i=0..2){wire w:1;} assign w=1;}`, "m", api.ErrNoName)
	fails(t, `module m(){for l(i=0..2){const C=1;} wire w:C;}`, "m", api.ErrFree)
	fails(t, `module m(){for l(i=0..2){} wire w:i;}`, "m", api.ErrFree)
	fails(t, `module m(){comb{for(i=0..2){}} wire w:i;}`, "m", api.ErrFree)
	fails(t, `module m(){comb{for(i=0..2){} for(j=i..2){}}}`, "m", api.ErrFree)
	fails(t, `module m(out y:1){comb{for(i=0..2){} y=i;}}`, "m", api.ErrNoName)
}

// TestAheadOfTheItem: what an item uses stands ahead of it.
func TestAheadOfTheItem(t *testing.T) {
	for _, text := range []string{`assign w=1; wire w:1;`, `check c:w; wire w:1;`, `check c:C; const C=1;`, `comb{w=1;} wire w:1;`, `for l(i=0..1){check c:w;} wire w:1;`, `if(1){check c:w;} wire w:1;`, `inst u:k(a=w); wire w:1;`, `inst u:k(a=1,y=w); wire w:1;`} {
		fails(t, `module k(in a:1,out y:1){} module m(){`+text+`}`, "m", api.ErrNoName)
	}
	for _, text := range []string{`wire w:C; const C=1;`, `const C=C;`, `const C=D; const D=1;`, `reg q:1=C; const C=1;`, `if(C){} const C=1;`, `for l(i=0..C){} const C=1;`, `for l(i=i..1){}`, `comb{for(i=i..1){}}`, `inst u:k#(P=C)(); const C=1;`} {
		fails(t, `module k#(P=1)(){} module m(){`+text+`}`, "m", api.ErrFree)
	}
	fails(t, `module m#(A=B,B=1)(){}`, "m", api.ErrFree)
	fails(t, `module m#(A=A)(){}`, "m", api.ErrFree)
	fails(t, `module m(in a:C){const C=1;}`, "m", api.ErrFree)
}

func TestInstances(t *testing.T) {
	const k = `module k#(P=2,Q=P)(in a:P,out y:Q,in b:1,out z:1){wire w:P; assign y=w; check c:b;} `
	lays(t, k+`module m(out y:4){wire v:2; inst u:k#(Q=4)(z=v[1],b=v[0],a=v+1,y=y);}`, "m",
		"out y:4, wire v:2, wire u.a:2, wire u.y:4, wire u.b:1, wire u.z:1, wire u.w:2 / "+
			"{u.a[1:0] = add(v[1:0], 1)} {u.b[0:0] = v(0)} {u.y[3:0] = u.w[1:0]} {y[3:0] = u.y[3:0]} {v[1:1] = u.z[0:0]} / u.c: u.b[0:0]")
	lays(t, k+`module m(){inst u:k#(P=3)(b=1,a=0);}`, "m",
		"wire u.a:3, wire u.y:3, wire u.b:1, wire u.z:1, wire u.w:3 / {u.a[2:0] = 0} {u.b[0:0] = 1} {u.y[2:0] = u.w[2:0]} / u.c: u.b[0:0]")
	lays(t, `module k#(P=z)(out y:P){assign y=P;} module m#(N=1)(out o:8){const C=3; inst u:k#(P=C+N)(y=o[C+4:C]);}`, "m",
		"out o:8, wire u.y:4 / {u.y[3:0] = 4} {o[7:3] = u.y[3:0]} / ")
	lays(t, `module k(){}  module m(){inst u:k(); inst v:k();}`, "m", " /  / ")
}

// TestInstancesInInstances: paths go on, ports of each are wires, and what is around is not seen.
func TestInstancesInInstances(t *testing.T) {
	const text = `module b(in x:1,out y:1){reg q:1=1; on tick{q<=x;} assign y=q;}
		module a(in x:1,out y:1){wire w:1; inst one:b(x=x,y=w); inst two:b(x=w,y=y);}`
	lays(t, text+`module m(in i:1,out o:2){for l(n=0..2){inst u:a(x=i,y=o[n]);}}`, "m",
		"in i:1, out o:2"+
			", wire l[0].u.x:1, wire l[0].u.y:1, wire l[0].u.w:1, wire l[0].u.one.x:1, wire l[0].u.one.y:1, reg l[0].u.one.q:1=1, wire l[0].u.two.x:1, wire l[0].u.two.y:1, reg l[0].u.two.q:1=1"+
			", wire l[1].u.x:1, wire l[1].u.y:1, wire l[1].u.w:1, wire l[1].u.one.x:1, wire l[1].u.one.y:1, reg l[1].u.one.q:1=1, wire l[1].u.two.x:1, wire l[1].u.two.y:1, reg l[1].u.two.q:1=1 / "+
			strings.Join([]string{joins(0), joins(1)}, " ")+" / ")
	lays(t, text, "b", "in x:1, out y:1, reg q:1=1 / tick{q[0:0] = x[0:0]} {y[0:0] = q[0:0]} / ")
	fails(t, `module k(){check c:v;} module m(){wire v:1; inst u:k();}`, "m", api.ErrNoName)
	fails(t, `module k(){wire w:C;} module m(){const C=1; inst u:k();}`, "m", api.ErrFree)
	fails(t, `module k(in x:C){} module m#(C=1)(){inst u:k(x=1);}`, "m", api.ErrFree)
	fails(t, `module k#(P=C)(){} module m#(C=1)(){inst u:k();}`, "m", api.ErrFree)
	fails(t, `module k#(P=1)(in x:1){} module m(){inst u:k(x=P);}`, "m", api.ErrNoName)
	fails(t, `module k#(P=1,Q=2)(){} module m(){inst u:k#(P=1,Q=P)();}`, "m", api.ErrFree)
	fails(t, `module k(in x:1,out y:1){} module m(){inst u:k(x=y,y=x);}`, "m", api.ErrNoName)
}

// joins is the processes of one pass of the loop above.
func joins(n int) string {
	const one = "{P.x[0:0] = i[0:0]} {P.one.x[0:0] = P.x[0:0]} tick{P.one.q[0:0] = P.one.x[0:0]} {P.one.y[0:0] = P.one.q[0:0]} {P.w[0:0] = P.one.y[0:0]}" +
		" {P.two.x[0:0] = P.w[0:0]} tick{P.two.q[0:0] = P.two.x[0:0]} {P.two.y[0:0] = P.two.q[0:0]} {P.y[0:0] = P.two.y[0:0]} {o[N:N] = P.y[0:0]}"
	number := string(rune('0' + n))
	return strings.NewReplacer("P", "l["+number+"].u", "N", number).Replace(one)
}

func TestStatements(t *testing.T) {
	body(t, `comb{y=a; y[1]=b; y[2:1]=a;}`, " / {y[7:0] = a[7:0]; y[1:1] = b[0:0]; y[2:1] = a[7:0]} / ")
	body(t, `comb{if(b){y=1;}}`, " / {if b[0:0] {{y[7:0] = 1}; {}}} / ")
	body(t, `comb{if(b){}else{y=1; y=2;}}`, " / {if b[0:0] {{}; {y[7:0] = 1; y[7:0] = 2}}} / ")
	body(t, `comb{if(b){y=1;}else if(a){y=2;}else if(1){}else{y=3;}}`, " / {if b[0:0] {{y[7:0] = 1}; {if a[7:0] {{y[7:0] = 2}; {if 1 {{}; {y[7:0] = 3}}}}}}} / ")
	body(t, `comb{if(b){y=1;}else{if(a){}}}`, " / {if b[0:0] {{y[7:0] = 1}; {if a[7:0] {{}; {}}}}} / ")
	body(t, `comb{{}{y=1;{}}}`, " / {{}; {y[7:0] = 1; {}}} / ")
	body(t, `const C=5; comb{case(a){1:{y=1;} 2,C,8'hff,C*2:{} else:{y=3;}}}`, " / {case a[7:0] {1: {y[7:0] = 1}; 2, 5, 8'255, 10: {}; : {y[7:0] = 3}}} / ")
	body(t, `comb{case(a+1){else:{}}}`, " / {case add(a[7:0], 1) {: {}}} / ")
	body(t, `reg q:2=0; on tick{if(b){q<=a;}else if(q){q[1]<=1;} case(q){0:{q[1:0]<=2;} else:{}}}`, ", reg q:2=0 / tick{if b[0:0] {{q[1:0] = a[7:0]}; {if q[1:0] {{q[1:1] = 1}; {}}}}; case q[1:0] {0: {q[1:0] = 2}; : {}}} / ")
}

func TestLoopsOfStatements(t *testing.T) {
	body(t, `comb{for(i=0..3){y[i]=a[i+1]; {}}}`, " / {{y[0:0] = a(add(0, 1)); {}; y[1:1] = a(add(1, 1)); {}; y[2:2] = a(add(2, 1)); {}}} / ")
	body(t, `comb{for(i=3..3){y=1;} for(i=4..3){y=1;}}`, " / {{}; {}} / ")
	body(t, `const N=2; comb{for(i=0..N){for(j=i..N){y[i+j:i]=j;}}}`, " / {{{y[0:0] = 0; y[1:0] = 1}; {y[2:1] = 1}}} / ")
	body(t, `for l(i=1..3){comb{for(j=0..i){if(j){case(a){i,j:{y=i*j;} else:{}}}}}}`,
		" / {{if 0 {{case a[7:0] {1, 0: {y[7:0] = mul(1, 0)}; : {}}}; {}}}}"+
			" {{if 0 {{case a[7:0] {2, 0: {y[7:0] = mul(2, 0)}; : {}}}; {}}; if 1 {{case a[7:0] {2, 1: {y[7:0] = mul(2, 1)}; : {}}}; {}}}} / ")
	body(t, `reg q:4=0; on tick{for(i=0..2){q[i]<=q[i+1:i+1];}}`, ", reg q:4=0 / tick{{q[0:0] = q[1:1]; q[1:1] = q[2:2]}} / ")
}

func TestExpressions(t *testing.T) {
	for x, want := range map[string]string{
		`0`:                          "0",
		`18446744073709551615`:       "18446744073709551615",
		`64'hffffffffffffffff`:       "64'18446744073709551615",
		`1'b0`:                       "1'0",
		`C`:                          "5",
		`a`:                          "a[7:0]",
		`b`:                          "b[0:0]",
		`a[7:0]`:                     "a[7:0]",
		`a[C:C-2]`:                   "a[5:3]",
		`b[0:0]`:                     "b[0:0]",
		`a[b]`:                       "a(b[0:0])",
		`a[C]`:                       "a(5)",
		`a[100]`:                     "a(100)",
		`a[a[a[1:0]]]`:               "a(a(a[1:0]))",
		`y`:                          "y[7:0]",
		`~a`:                         "not(a[7:0])",
		`-C`:                         "neg(5)",
		`&a`:                         "all(a[7:0])",
		`|a`:                         "any(a[7:0])",
		`^a`:                         "odd(a[7:0])",
		`!b`:                         "no(b[0:0])",
		`a&b|C^1`:                    "or(and(a[7:0], b[0:0]), xor(5, 1))",
		`a+b-C*1`:                    "sub(add(a[7:0], b[0:0]), mul(5, 1))",
		`a<<b>>C`:                    "shr(shl(a[7:0], b[0:0]), 5)",
		`a==b!=C`:                    "ne(eq(a[7:0], b[0:0]), 5)",
		`(a<b)<=(C>1)`:               "le(lt(a[7:0], b[0:0]), gt(5, 1))",
		`a>=b&&C||1`:                 "one(both(ge(a[7:0], b[0:0]), 5), 1)",
		`b?a:C`:                      "cond(b[0:0], a[7:0], 5)",
		`C?zext(9,a):0`:              "cond(5, zext9(a[7:0]), 0)",
		`{a}`:                        "cat(a[7:0])",
		`{a,C,8'd1}`:                 "cat(a[7:0], 5, 8'1)",
		`{1{a}}`:                     "cat(a[7:0])",
		`{C-2{a+b}}`:                 "cat(add(a[7:0], b[0:0]), add(a[7:0], b[0:0]), add(a[7:0], b[0:0]))",
		`{2{{2{b}}}}`:                "cat(cat(b[0:0], b[0:0]), cat(b[0:0], b[0:0]))",
		`{64{b}}`:                    "cat(" + strings.Repeat("b[0:0], ", 63) + "b[0:0])",
		`zext(C,b)`:                  "zext5(b[0:0])",
		`sext(64,a[1:0])`:            "sext64(a[1:0])",
		`trunc(C-4,zext(C+C,a)+C)`:   "cut1(add(zext10(a[7:0]), 5))",
		`a[1]`:                       "a(1)",
		`(a)`:                        "a[7:0]",
		`{3{C}}`:                     "cat(5, 5, 5)",
		`a[{2{b}}]`:                  "a(cat(b[0:0], b[0:0]))",
		`C==5?a[C:0]:trunc(6,a)`:     "cond(eq(5, 5), a[5:0], cut6(a[7:0]))",
		`C==5&&(1'b1||(C<<C)>>b!=0)`: "both(eq(5, 5), one(1'1, ne(shr(shl(5, 5), b[0:0]), 0)))",
	} {
		body(t, `const C=5; check c:`+x+`;`, " /  / c: "+want)
		body(t, `const C=5; assign y=`+x+`;`, " / {y[7:0] = "+want+"} / ")
		body(t, `const C=5; comb{if(`+x+`){}case(`+x+`){else:{}}}`, " / {if "+want+" {{}; {}}; case "+want+" {: {}}} / ")
	}
}

func TestFind(t *testing.T) {
	d := api.Flat{Signals: []api.Signal{{Name: "a"}, {Name: "l[0].b"}, {}, {Name: "a", W: 3}, {Name: "u.a"}}}
	for name, want := range map[string]int{"a": 0, "l[0].b": 1, "": 2, "u.a": 4} {
		if n, ok := elab.Find(d, name); n != want || !ok {
			t.Errorf("Find %q: %d, %v", name, n, ok)
		}
	}
	for _, name := range []string{"b", "A", "u", "l[1].b", "a "} {
		if n, ok := elab.Find(d, name); n != 0 || ok {
			t.Errorf("Find %q: %d, %v", name, n, ok)
		}
	}
	if n, ok := elab.Find(api.Flat{}, ""); n != 0 || ok {
		t.Errorf("Find of no signals: %d, %v", n, ok)
	}
	d, _ = elab.Elab(file(t, adder), "t", nil)
	if n, ok := elab.Find(d, "u.y"); n != 2 || !ok {
		t.Errorf("Find u.y: %d, %v", n, ok)
	}
}

func TestPorts(t *testing.T) {
	d := api.Flat{Signals: []api.Signal{{Kind: 4}, {Kind: 2}, {Kind: 1}, {Kind: 2}, {Kind: 0}, {Kind: 9}, {Kind: 1}, {Kind: 3}, {Kind: -1}, {Kind: 1}}}
	for kind, want := range map[int][]int{api.InK: {2, 6, 9}, api.OutK: {1, 3}, api.WireK: {7}, api.RegK: {0}, 0: {4}, 9: {5}, -1: {8}, 5: nil} {
		if l := elab.Ports(d, kind); !slices.Equal(l, want) {
			t.Errorf("Ports of kind %d: %v", kind, l)
		}
	}
	if l := elab.Ports(api.Flat{}, api.InK); len(l) != 0 {
		t.Errorf("Ports of no signals: %v", l)
	}
	l := elab.Ports(d, api.InK)
	l[0] = 77
	if l := elab.Ports(d, api.InK); l[0] != 2 {
		t.Error("an answer was kept")
	}
}
