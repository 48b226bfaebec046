package names_test

import (
	"slices"
	"strings"
	"testing"

	"filigree/api"
	"filigree/ast"
	"filigree/names"
	"filigree/parse"
)

// file is what a text says.
func file(t *testing.T, text string) api.File {
	t.Helper()
	f, place, e := parse.Parse([]byte(text))
	if e != api.OK {
		t.Fatalf("%q at %d: error %d", text, place, e)
	}
	return f
}

func checks(t *testing.T, text string, want api.Errno) {
	t.Helper()
	f := file(t, text)
	if e := names.Check(f); e != want {
		t.Errorf("Check %q: error %d, want %d", text, e, want)
	}
	if want == api.OK {
		return
	}
	if l, e := names.Order(f); len(l) != 0 || e != want {
		t.Errorf("Order %q: %v, error %d, want %d", text, l, e, want)
	}
	for _, top := range []string{"m", "nowhere"} {
		if l, e := names.Below(f, top); len(l) != 0 || e != want {
			t.Errorf("Below %q of %q: %v, error %d, want %d", top, text, l, e, want)
		}
	}
}

// orders holds the order of a file, and what stands below each module, written as "top: names".
func orders(t *testing.T, text, want string, below ...string) {
	t.Helper()
	f := file(t, text)
	if e := names.Check(f); e != api.OK {
		t.Errorf("Check %q: error %d", text, e)
	}
	if l, e := names.Order(f); e != api.OK || strings.Join(l, " ") != want {
		t.Errorf("Order %q: %v, error %d, want %s", text, l, e, want)
	}
	for _, line := range below {
		top, want, _ := strings.Cut(line, ": ")
		if l, e := names.Below(f, top); e != api.OK || strings.Join(l, " ") != want {
			t.Errorf("Below %s of %q: %v, error %d, want %s", top, text, l, e, want)
		}
	}
	if l, e := names.Below(f, "nowhere"); len(l) != 0 || e != api.ErrNoModule {
		t.Errorf("Below of no module of %q: %v, error %d", text, l, e)
	}
}

func TestOrder(t *testing.T) {
	orders(t, `module a(){inst u:b();} module b(){}`, "b a", "b: b", "a: b a")
	orders(t, `module a(){}`, "a", "a: a")
	orders(t, `module c(){} module a(){} module b(){}`, "c a b", "a: a", "b: b", "c: c")
	orders(t, `module a(){inst u:c();} module b(){} module c(){} module d(){}`, "b c a d", "a: c a", "b: b", "c: c", "d: d")
	orders(t, `module a(){inst u:b(); inst v:c();} module b(){inst u:d();} module c(){inst u:d();} module d(){}`, "d b c a", "a: d b c a", "b: d b", "c: d c", "d: d")
	orders(t, `module a(){inst u:d(); inst v:b();} module b(){inst u:c();} module c(){} module d(){}`, "c b d a", "a: c b d a", "b: c b", "d: d")
	orders(t, `module a(){if(0){inst u:b();}else{for l(i=0..1){inst v:c();}}} module b(){} module c(){if(1){}else{inst u:b();}}`, "b c a", "a: b c a", "c: b c")
	orders(t, `module a(){inst u:b(); inst v:b(); inst w:b();} module b(){}`, "b a", "a: b a")
}

func TestNoModules(t *testing.T) {
	if l, e := names.Order(api.File{}); len(l) != 0 || e != api.OK || names.Check(api.File{}) != api.OK {
		t.Errorf("Order of no modules: %v, error %d", l, e)
	}
	if l, e := names.Below(api.File{}, "a"); len(l) != 0 || e != api.ErrNoModule {
		t.Errorf("Below of no modules: %v, error %d", l, e)
	}
}

func TestModules(t *testing.T) {
	checks(t, `module m(){} module n(){} module m(in a:1){}`, api.ErrTwice)
	checks(t, `module m(){} module m(){}`, api.ErrTwice)
	checks(t, `module m(in m:1){}`, api.OK)
	checks(t, `module m(){wire n:1;} module n(){wire n:1; wire m:1;}`, api.OK)
	checks(t, `module m(){inst n:n();} module n(){}`, api.OK)
	checks(t, `module m(){inst u:n();}`, api.ErrNoModule)
	checks(t, `module m(){if(0){}else{inst u:n();}}`, api.ErrNoModule)
	checks(t, `module m(){for l(i=0..0){if(0){inst u:n();}}}`, api.ErrNoModule)
	checks(t, `module m(){inst u:M();}`, api.ErrNoModule)
	checks(t, `module m(){} module n(){inst u:m(); inst v:k();}`, api.ErrNoModule)
	checks(t, `module m(){inst u:m();}`, api.ErrRing)
	checks(t, `module m(){if(0){inst u:m();}}`, api.ErrRing)
	checks(t, `module m(){if(1){}else{for l(i=0..0){inst u:m();}}}`, api.ErrRing)
	checks(t, `module m(){inst u:n();} module n(){inst u:m();}`, api.ErrRing)
	checks(t, `module a(){} module m(){inst u:n();} module n(){inst u:a(); inst v:k();} module k(){inst u:n();}`, api.ErrRing)
	checks(t, `module a(){inst u:b();} module b(){inst u:c();} module c(){inst u:a();} module m(){}`, api.ErrRing)
}

// TestFirstError: what is named first is told, wherever it stands.
func TestFirstError(t *testing.T) {
	checks(t, `module m(){inst u:n(); inst v:m();}`, api.ErrNoModule)
	checks(t, `module m(){inst v:m();} module k(){inst u:n();}`, api.ErrNoModule)
	checks(t, `module m(){inst u:n(); inst v:m();} module k(){wire w:1; wire w:1;}`, api.ErrTwice)
	checks(t, `module m(){inst u:n();} module m(){}`, api.ErrTwice)
	checks(t, `module m(){inst u:m();} module m(){}`, api.ErrTwice)
	for _, text := range []string{`module m(){inst u:n(); wire w:1; wire w:1;}`, `module m(){inst u:m();}`, `module m(){inst u:n();}`, `module m(){}`} {
		f := file(t, text)
		f.Modules = append(f.Modules, api.Module{Name: "if"})
		wrong(t, f, api.ErrArg)
		f.Modules = append(f.Modules, make([]api.Module, api.MaxModules-1)...)
		wrong(t, f, api.ErrBound)
	}
}

func wrong(t *testing.T, f api.File, want api.Errno) {
	t.Helper()
	l, e := names.Order(f)
	l2, e2 := names.Below(f, "m")
	if e3 := names.Check(f); e != want || e2 != want || e3 != want || len(l)+len(l2) != 0 {
		t.Errorf("errors %d, %d, %d, want %d", e, e2, e3, want)
	}
}

// told is a text of a module for each thing that tells a name, which stands where $ does.
func told() []string {
	return []string{`const $=1;`, `wire $:1;`, `reg $:1=0;`, `inst $:k();`, `for $(unlike=0..1){}`, `check $:1;`}
}

// holds checks a module's items.
func holds(t *testing.T, items string, want api.Errno) {
	t.Helper()
	checks(t, `module k(){} module m#(P=1)(in a:1,out b:1){`+items+`}`, want)
}

// TestEachTells: whatever tells a name, no other that tells the same may stand in the same scope, or in one within.
func TestEachTells(t *testing.T) {
	for _, one := range told() {
		w, v := strings.ReplaceAll(one, "$", "w"), strings.ReplaceAll(one, "$", "v")
		for _, other := range told() {
			other = strings.ReplaceAll(other, "$", "w")
			holds(t, w+other, api.ErrTwice)
			holds(t, v+other, api.OK)
			holds(t, w+`if(1){`+other+`}`, api.ErrTwice)
			holds(t, w+`if(1){}else{`+other+`}`, api.ErrTwice)
			holds(t, `if(1){`+other+`}`+w, api.ErrTwice)
			holds(t, `if(1){}else{`+other+`}`+w, api.ErrTwice)
			holds(t, `if(1){`+other+w+`}`, api.ErrTwice)
			holds(t, `if(1){}else{`+other+w+`}`, api.ErrTwice)
			holds(t, `if(1){`+other+`}else{`+w+`}`, api.OK)
			holds(t, `if(1){`+other+`}if(0){`+w+`}`, api.ErrTwice)
			holds(t, w+`for l(i=0..1){`+other+`}`, api.ErrTwice)
			holds(t, `for l(i=0..1){`+other+`}`+w, api.ErrTwice)
			holds(t, `for l(i=0..1){`+other+w+`}`, api.ErrTwice)
			holds(t, `for l(i=0..1){`+other+`}for k(i=0..1){`+w+`}`, api.OK)
			holds(t, `if(1){for l(i=0..1){`+other+`}}else{`+w+`}`, api.ErrTwice)
		}
		for _, name := range []string{"P", "a", "b"} {
			one := strings.ReplaceAll(one, "$", name)
			holds(t, one, api.ErrTwice)
			holds(t, `if(1){for l(i=0..1){`+one+`}}`, api.ErrTwice)
		}
		for _, name := range []string{"m", "k", "i", "W"} {
			holds(t, strings.ReplaceAll(one, "$", name), api.OK)
		}
		holds(t, w+`for l(w=0..1){}`, api.ErrTwice)
		holds(t, `for l(w=0..1){}`+w, api.ErrTwice)
		holds(t, `for l(w=0..1){`+w+`}`, api.ErrTwice)
		holds(t, `for l(w=0..1){for j(i=0..1){`+w+`}}`, api.ErrTwice)
		holds(t, `for l(w=0..1){for j(i=0..1){}}for h(i=0..1){`+w+`}`, api.OK)
		holds(t, w+`comb{for(w=0..1){}}`, api.ErrTwice)
		holds(t, `on tick{{for(w=0..1){}}}`+w, api.ErrTwice)
		holds(t, `for l(i=0..1){comb{for(w=0..1){}}}`+w, api.ErrTwice)
		holds(t, `for l(i=0..1){comb{for(w=0..1){}}}for h(i=0..1){`+w+`}`, api.OK)
		holds(t, `if(1){comb{for(w=0..1){}}}else{`+w+`}`, api.ErrTwice)
	}
}

func TestHeads(t *testing.T) {
	checks(t, `module m#(P=1,Q=2,P=3)(){}`, api.ErrTwice)
	checks(t, `module m#(P=1)(in a:1,in P:1){}`, api.ErrTwice)
	checks(t, `module m#(P=1)(in a:1,out a:1){}`, api.ErrTwice)
	checks(t, `module m#(P=1)(in p:1,out q:1){}`, api.OK)
	holds(t, `for P(i=0..1){}`, api.ErrTwice)
	holds(t, `for l(a=0..1){}`, api.ErrTwice)
	holds(t, `comb{for(b=0..1){}}`, api.ErrTwice)
	holds(t, `assign b=a; assign b=P; comb{b=a;} on tick{a<=b;}`, api.OK)
	holds(t, `inst u:k#(Q=1,Q=1,u=1)(u=1,a=1,a=1); assign nothing=unknown;`, api.OK)
}

func TestChoices(t *testing.T) {
	holds(t, `if(1){wire w:1;}else{if(1){wire w:1;}else{wire w:1;}}`, api.OK)
	holds(t, `if(1){if(1){wire w:1;}else{wire w:1;}}else{if(1){wire w:1;}else{wire w:1;}}`, api.OK)
	holds(t, `if(1){if(1){wire w:1;}else{}wire w:1;}else{wire w:1;}`, api.ErrTwice)
	holds(t, `if(1){if(1){}else{wire w:1;}wire w:1;}`, api.ErrTwice)
	holds(t, `if(1){wire w:1;}else{if(1){wire v:1;}else{wire w:1;}wire v:1;}`, api.ErrTwice)
	holds(t, `if(1){wire w:1;}else{wire w:1;} if(1){wire v:1;}else{wire w:1;}`, api.ErrTwice)
	holds(t, `if(1){wire w:1; wire v:1; wire u:1;}else{wire z:1;} wire z:1;`, api.ErrTwice)
	holds(t, `if(1){wire z:1;}else{wire w:1; wire v:1; wire u:1;} wire z:1;`, api.ErrTwice)
	holds(t, `if(1){wire z:1;}else{wire w:1; wire v:1; wire u:1;} wire w:1;`, api.ErrTwice)
	holds(t, `wire z:1; if(1){wire y:1; wire x:1;}else{wire w:1; wire v:1; wire u:1;} if(0){wire z:1;}`, api.ErrTwice)
	holds(t, `wire z:1; if(1){wire y:1; wire x:1;}else{wire w:1; wire v:1; wire u:1;} if(0){wire y:1;}`, api.ErrTwice)
	holds(t, `wire z:1; if(1){wire y:1; wire x:1;}else{wire w:1; wire v:1; wire u:1;} if(0){wire w2:1;}`, api.OK)
	holds(t, `if(1){for l(i=0..1){wire w:1;}}else{for l(i=0..1){wire w:1;}}`, api.OK)
	holds(t, `if(1){for l(i=0..1){wire w:1;}}else{for l(i=0..1){wire l:1;}}`, api.ErrTwice)
	holds(t, `if(1){for l(i=0..1){}}else{for i(j=0..1){}}`, api.ErrTwice)
}

func TestLoops(t *testing.T) {
	holds(t, `for l(l=0..1){}`, api.ErrTwice)
	holds(t, `for l(i=0..1){for i(j=0..1){}}`, api.ErrTwice)
	holds(t, `for l(i=0..1){for j(i=0..1){}}`, api.ErrTwice)
	holds(t, `for l(i=0..1){for l(j=0..1){}}`, api.ErrTwice)
	holds(t, `for l(i=0..1){for j(l=0..1){}}`, api.ErrTwice)
	holds(t, `for l(i=0..1){for k(j=0..1){}} for h(i=0..1){for k(j=0..1){}}`, api.OK)
	holds(t, `for l(i=0..1){} for i(j=0..1){}`, api.ErrTwice)
	holds(t, `for i(j=0..1){} for l(i=0..1){}`, api.ErrTwice)
	holds(t, `for l(i=0..1){if(1){wire w:1;}else{wire w:1;}}`, api.OK)
	holds(t, `for l(i=0..1){if(1){wire i:1;}}`, api.ErrTwice)
	holds(t, `for l(i=0..1){if(1){wire w:1;} wire w:1;}`, api.ErrTwice)
	holds(t, `for l(i=0..1){if(1){}else{for k(j=0..1){wire w:1;}} wire w:1;}`, api.ErrTwice)
	holds(t, `for l(i=0..1){for k(j=0..1){wire w:1;}} for n(i=0..1){wire w:1;}`, api.OK)
}

// TestLoopsOfStatements: the variable of one is told within its process, wherever it stands there.
func TestLoopsOfStatements(t *testing.T) {
	for _, where := range []string{`comb{$}`, `on tick{$}`, `comb{if(1){$}}`, `comb{if(1){}else{$}}`, `comb{if(1){}else if(0){$}}`, `on tick{{{$}}}`, `comb{case(1){1:{$} else:{}}}`, `comb{case(1){else:{$}}}`, `comb{for(z=0..1){$}}`, `for l(y=0..1){comb{$}}`, `if(1){}else{comb{$}}`} {
		hold := func(statements string, want api.Errno) {
			t.Helper()
			holds(t, strings.ReplaceAll(where, "$", statements), want)
		}
		hold(`for(i=0..1){}`, api.OK)
		hold(`for(i=0..1){}for(i=0..1){}`, api.OK)
		hold(`for(i=0..1){for(j=0..1){}}for(j=0..1){for(i=0..1){}}`, api.OK)
		hold(`for(i=0..1){for(i=0..1){}}`, api.ErrTwice)
		hold(`for(i=0..1){for(j=0..1){{for(i=0..1){}}}}`, api.ErrTwice)
		hold(`for(i=0..1){if(i){for(i=0..1){}}}`, api.ErrTwice)
		for _, name := range []string{"P", "a", "b"} {
			hold(`for(`+name+`=0..1){}`, api.ErrTwice)
			hold(`for(i=0..1){for(`+name+`=0..1){}}`, api.ErrTwice)
		}
	}
	holds(t, `for l(i=0..1){comb{for(i=0..1){}}}`, api.ErrTwice)
	holds(t, `for l(i=0..1){comb{for(l=0..1){}}}`, api.ErrTwice)
	holds(t, `for l(i=0..1){} comb{for(i=0..1){}}`, api.OK)
	holds(t, `comb{for(i=0..1){}} on tick{for(i=0..1){}} comb{for(i=0..1){}}`, api.OK)
	holds(t, `comb{for(i=0..1){}} for i(j=0..1){}`, api.ErrTwice)
}

func TestFind(t *testing.T) {
	f := file(t, `module a(in x:1){} module b(){} module a(out y:2){wire w:3;}`)
	for name, want := range map[string]int{"a": 0, "b": 1} {
		m, ok := names.Find(f, name)
		if !ok || !sameModule(m, f.Modules[want]) {
			t.Errorf("Find %s: %v, %v", name, m, ok)
		}
	}
	for _, name := range []string{"c", "", "A", "ab", "if"} {
		if m, ok := names.Find(f, name); ok || !sameModule(m, api.Module{}) {
			t.Errorf("Find %q: %v, %v", name, m, ok)
		}
	}
	if m, ok := names.Find(api.File{}, ""); ok || !sameModule(m, api.Module{}) {
		t.Errorf("Find of no modules: %v, %v", m, ok)
	}
	odd := api.File{Modules: []api.Module{{Name: "if", Items: []api.Item{{Op: 77}}}, {Items: []api.Item{{Op: 78}}}}}
	for i, name := range []string{"if", ""} {
		if m, ok := names.Find(odd, name); !ok || !sameModule(m, odd.Modules[i]) {
			t.Errorf("Find %q: %v, %v", name, m, ok)
		}
	}
}

func sameModule(m, n api.Module) bool {
	return ast.Same(api.File{Modules: []api.Module{m}}, api.File{Modules: []api.Module{n}})
}

func uses(t *testing.T, m api.Module, want ...string) {
	t.Helper()
	if l := names.Uses(m); !slices.Equal(l, want) {
		t.Errorf("Uses %v: %v, want %v", m, l, want)
	}
}

func TestUses(t *testing.T) {
	for text, want := range map[string]string{
		``:                                     "",
		`wire w:1; check c:w; for l(i=0..1){}`: "",
		`inst u:b(); inst v:a(); inst w:c();`:  "b a c",
		`inst u:b(); inst v:a(); inst w:b();`:  "b a",
		`if(1){inst u:c();}else{inst u:b();}inst v:a();`:                              "c b a",
		`if(1){inst u:c();}else{inst u:c();}inst v:a();inst w:c();`:                   "c a",
		`inst v:a(); for l(i=0..1){inst u:d(); if(0){}else{inst v:b();}} inst w:c();`: "a d b c",
		`inst b:m(); inst c:d#(x=1)(y=2);`:                                            "m d",
	} {
		uses(t, file(t, `module m(){`+text+`}`).Modules[0], strings.Fields(want)...)
	}
}

// TestUsesOfWhatever: items are gone into whatever they are, also those that may not be.
func TestUsesOfWhatever(t *testing.T) {
	inst := func(of string, l ...api.Item) api.Item {
		return api.Item{Op: api.InstI, Name: "u", Of: of, L: l}
	}
	uses(t, api.Module{Items: []api.Item{inst("a", inst("b", inst("c")), inst("d")), inst("e")}}, "a", "b", "c", "d", "e")
	uses(t, api.Module{Items: []api.Item{inst(""), inst("if"), inst(""), inst("if")}}, "", "if")
	for _, op := range []int{-1, 0, 1, 2, 3, 4, 5, 6, 8, 9, 10, 11} {
		i := api.Item{Op: op, Of: "x", L: []api.Item{inst("b"), inst("a")}, Else: []api.Item{inst("c", inst("d")), inst("a")}}
		uses(t, api.Module{Items: []api.Item{i, inst("e")}}, "b", "a", "c", "d", "e")
	}
	i := inst("z", inst("b"))
	i.Else = []api.Item{inst("c"), inst("z")}
	uses(t, api.Module{Items: []api.Item{i}}, "z", "b", "c")
}
