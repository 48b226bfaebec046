package elab_test

import (
	"fmt"
	"strings"
	"testing"

	"filigree/api"
	"filigree/elab"
)

// leaving is a module in which so many may still be counted when its last items are come to.
func leaving(left int, items string) string {
	const k = `module k(in a:1,out y:1){wire w:1;} module p#(P=1)(){} `
	// A check is counted, and all nodes of its expression.
	return k + `module m(in a:8,out y:8){check pad:` + exact(api.MaxNodes-left-1) + `; ` + items + `}`
}

// exact is an expression of so many nodes, 64577 at least.
func exact(nodes int) string {
	return `{{63{{64{{15{a}}}}}}` + strings.Repeat(`,a`, nodes-64577) + `}`
}

// counts wants that items come to an end, or to an error, when so many are counted.
func counts(t *testing.T, items string, n int, want api.Errno) {
	t.Helper()
	for left := range n {
		fails(t, leaving(left, items), "m", api.ErrBound)
	}
	for _, left := range []int{n, n + 1, 2 * n} {
		f := file(t, leaving(left, items))
		if _, e := elab.Elab(f, "m", nil); e != want {
			t.Errorf("%s with %d left: error %d, want %d", items, left, e, want)
		}
	}
}

// TestCounted: items, passes, statements, and nodes of expressions; each as it is come to, or made.
func TestCounted(t *testing.T) {
	for items, n := range map[string]int{
		``:                                     0,
		`const C=1+1+1;`:                       1,
		`wire w:1+1;`:                          1,
		`reg q:1=8'h1;`:                        1,
		`if(1){}`:                              1,
		`if(2-1){const C=1;}`:                  2,
		`if(0){}else{const C=1; wire w:1;}`:    3,
		`for l(i=5..8){}`:                      4,
		`for l(i=8..5){const C=1;}`:            1,
		`for l(i=5..8){const C=1;}`:            7,
		`for l(i=0..2){for k(j=0..i){}}`:       6,
		`check c:1;`:                           2,
		`check c:a;`:                           2,
		`check c:a[3:2];`:                      2,
		`check c:a[1];`:                        3,
		`check c:~(a+1);`:                      5,
		`check c:a?1:2;`:                       5,
		`check c:{a,a,a};`:                     5,
		`check c:{3{a}};`:                      5,
		`check c:{2{{3{a}}}};`:                 10,
		`check c:zext(1+1+1,a);`:               3,
		`assign y=1;`:                          3,
		`assign y[2-1:1-1]=1;`:                 3,
		`assign y[2-1]=a[1];`:                  4,
		`comb{}`:                               1,
		`on tick{}`:                            1,
		`comb{y=a;}`:                           3,
		`comb{{}}`:                             2,
		`comb{{}{{}}}`:                         4,
		`comb{if(1){}}`:                        5,
		`comb{if(1){}else{y=1;}}`:              7,
		`comb{if(1){}else if(a+1){}}`:          11,
		`comb{case(1){}}`:                      4,
		`comb{case(1){1,2+2:{} else:{}}}`:      7,
		`comb{case(a+1){1:{y=2;} 3:{}}}`:       12,
		`comb{for(i=5..8){}}`:                  5,
		`comb{for(i=8..5){y=1;}}`:              2,
		`comb{for(i=5..8){y=i;}}`:              11,
		`comb{for(i=0..2){for(j=0..i){y=1;}}}`: 9,
		`inst u:k(a=1);`:                       4,
		`inst u:k(a=1+1);`:                     6,
		`inst u:k(y=y,a=1);`:                   6,
		`inst u:k(y=y[1-1],a=a);`:              6,
		`inst u:p#(P=1+1)();`:                  1,
		`for l(i=0..2){inst u:p();}`:           5,
	} {
		counts(t, items, n, api.OK)
	}
}

// TestCountedAhead: what is counted when an error is come to; more errors follow it.
func TestCountedAhead(t *testing.T) {
	for items, n := range map[string]int{
		`wire w:0;`:                             1,
		`const C=1; wire w:0;`:                  2,
		`if(1){wire w:0;}`:                      2,
		`if(0){}else{wire w:0;}`:                2,
		`for l(i=0..9){wire w:0;}`:              3,
		`for l(i=0..9){wire w:2-i;}`:            7,
		`check c:{a,a,a}; wire w:0;`:            6,
		`assign y={2{a}}; wire w:0;`:            6,
		`comb{if(1){}} wire w:0;`:               6,
		`comb{case(1){1:{} else:{}}} wire w:0;`: 7,
		`inst u:p(); wire w:0;`:                 2,
	} {
		counts(t, items+` assign z=1;`, n, api.ErrWide)
	}
	for items, n := range map[string]int{
		`assign z=1;`:                        2,
		`assign y=z;`:                        2,
		`assign y={a,a,{9{a}},z};`:           2,
		`check c:z;`:                         1,
		`check c:a+(a+z);`:                   1,
		`check c:a[z];`:                      1,
		`comb{z=1;}`:                         2,
		`comb{y=a+a+z;}`:                     2,
		`comb{y=a+a; z=1;}`:                  6,
		`comb{{z=1;}}`:                       3,
		`comb{if(a+z){}}`:                    2,
		`comb{if(1){z=1;}}`:                  5,
		`comb{if(1){}else{z=1;}}`:            6,
		`comb{if(1){}else if(z){}}`:          6,
		`comb{case(a+z){}}`:                  2,
		`comb{case(1){1,2:{z=1;}}}`:          7,
		`comb{case(1){else:{z=1;}}}`:         5,
		`comb{for(i=0..9){z=1;}}`:            4,
		`comb{for(i=0..9){} z=1;}`:           12,
		`inst u:k(a=z);`:                     2,
		`inst u:k(a=1,y=z);`:                 5,
		`for l(i=0..9){inst u:k(a=i+z);}`:    4,
		`inst u:p(); check c:{9{{9{a+z}}}};`: 2,
	} {
		counts(t, items+` wire w:0;`, n, api.ErrNoName)
	}
	for items, n := range map[string]int{
		`for l(i=z..0){}`:            1,
		`comb{for(i=0..z){}}`:        2,
		`comb{case(1){z:{}}}`:        4,
		`comb{case(1){1,2,z:{}}}`:    6,
		`comb{case(1){1:{} z:{}}}`:   6,
		`assign y[z]=1;`:             2,
		`check c:{9{a[0:z]}};`:       1,
		`inst u:p#(P=z)();`:          1,
		`comb{{}{for(i=0..z){}}}`:    4,
		`comb{for(i=0..2){y[z]=1;}}`: 4,
		`comb{y=a+a[z:0]; z=1;}`:     2,
		`inst u:k(a=1,y=y[z]);`:      5,
		`for l(i=0..1){if(z){}}`:     3,
		`reg q:1=z;`:                 1,
	} {
		counts(t, items+` wire w:0;`, n, api.ErrFree)
	}
	counts(t, `inst u:k(a=1,y=1); wire w:0;`, 5, api.ErrRole)
	counts(t, `inst u:k(a=1,a=1); wire w:0;`, 1, api.ErrPort)
	counts(t, `inst u:p#(Q=1)(a=1); wire w:0;`, 1, api.ErrParam)
}

// TestMuchAtOnce: nothing is gone through to its end when there is too much of it.
func TestMuchAtOnce(t *testing.T) {
	for _, items := range []string{
		`for l(i=0..2147483647){}`,
		`for l(i=0..65536){}`,
		`for l(i=0..256){for k(j=0..256){}}`,
		`for l(i=0..300){for k(j=0..300){for n(h=j..0){assign z=1;}}}`,
		`comb{for(i=0..2147483647){}}`,
		`comb{for(i=0..40000){y=i;}}`,
		`comb{for(i=0..2147483647){for(j=0..2147483647){for(h=0..2147483647){}}}}`,
		`for l(i=0..32768){inst u:p();}`,
		`for l(i=0..32768){if(i){}}`,
		`check c:{64{{64{{64{a}}}}}};`,
		`check c:` + strings.Repeat(`{64{`, 30) + `a` + strings.Repeat(`}}`, 30) + `;`,
		`for l(i=0..21846){check c:1;}`,
	} {
		fails(t, `module p(){} module m(in a:8,out y:8){`+items+`}`, "m", api.ErrBound)
	}
	for _, items := range []string{`for l(i=0..65535){}`, `for l(i=0..32767){inst u:p();}`, `for l(i=0..32767){if(i){}}`, `for l(i=0..21845){check c:1;}`, `comb{for(i=0..21844){y=i;}}`} {
		if _, e := elab.Elab(file(t, `module p(){} module m(in a:8,out y:8){`+items+`}`), "m", nil); e != api.OK {
			t.Errorf("%s: error %d", items, e)
		}
	}
}

// TestManyInstances: modules, each of which is made of two of the next one.
func TestManyInstances(t *testing.T) {
	var text strings.Builder
	for i := range api.MaxModules - 1 {
		fmt.Fprintf(&text, "module m%d(){inst u:m%d(); inst v:m%d();} ", i, i+1, i+1)
	}
	fmt.Fprintf(&text, "module m%d(){const C=1; wire w:1;}", api.MaxModules-1)
	fails(t, text.String(), "m0", api.ErrBound)
	// 512 instances have a wire each; those in which they stand are counted, too.
	d, e := elab.Elab(file(t, text.String()), "m54", nil)
	if e != api.OK || len(d.Signals) != 512 || d.Signals[0].Name != "u.u.u.u.u.u.u.u.u.w" || d.Signals[511].Name != "v.v.v.v.v.v.v.v.v.w" {
		t.Errorf("%d signals, error %d", len(d.Signals), e)
	}
	fails(t, text.String(), "m53", api.ErrBound)
}

// TestDeep: paths of as many instances, and of loops as deep, as there may be.
func TestDeep(t *testing.T) {
	var text, path strings.Builder
	for i := range api.MaxModules - 1 {
		fmt.Fprintf(&text, "module m%d(in a:2){inst u%d:m%d(a=a+%d);} ", i, i, i+1, i)
		fmt.Fprintf(&path, "u%d.", i)
	}
	last := fmt.Sprintf("module m%d(in a:2){check c:a;}", api.MaxModules-1)
	d, e := elab.Elab(file(t, text.String()+last), "m0", nil)
	if e != api.OK || len(d.Signals) != 64 || d.Signals[63].Name != path.String()+"a" || len(d.Procs) != 63 || d.Checks[0].Name != path.String()+"c" {
		t.Errorf("error %d: %s", e, show(d))
	}
	mayBe(t, "modules one in the other", d)
	const deep = 58
	head, tail, name, sum := "", "", "", "0"
	for i := range deep {
		head += fmt.Sprintf("for l%d(i%d=%d..%d){", i, i, i, i+1)
		tail += "}"
		name += fmt.Sprintf("l%d[%d].", i, i)
		if i%20 == 0 {
			sum += fmt.Sprint("+i", i)
		}
	}
	want := "wire " + name + "w:60 /  / " + name + "c: " + name + "w(57)"
	lays(t, "module m(){"+head+"wire w:"+sum+"; check c:w[i57];"+tail+"}", "m", want)
	for i := range deep {
		head = strings.ReplaceAll(head, fmt.Sprintf("for l%d(", i), "for(")
	}
	lays(t, "module m(){wire w:64; comb{"+head+"w[i57:i40+i15]=i0;"+tail+"}}", "m", "wire w:64 / {"+strings.Repeat("{", deep)+"w[57:55] = 0"+strings.Repeat("}", deep)+"} / ")
}

func TestManySignals(t *testing.T) {
	const many = `for s(i=0..511){wire s0:1;} `
	for items, want := range map[string]api.Errno{
		many + `wire w:1;`:                                           api.OK,
		many + `reg w:1=1;`:                                          api.OK,
		many + `inst u:k(a=1);`:                                      api.OK,
		many + `wire w:1; const C=1; assign w=1;`:                    api.OK,
		many + `wire w:1; wire v:1; assign z=1;`:                     api.ErrBound,
		many + `wire w:1; wire v:0;`:                                 api.ErrWide,
		many + `wire w:1; wire v:65;`:                                api.ErrWide,
		many + `wire w:1; wire v:z;`:                                 api.ErrFree,
		many + `wire w:1; reg v:1=0;`:                                api.ErrBound,
		many + `wire w:1; reg v:1=z;`:                                api.ErrFree,
		many + `wire w:1; reg v:0=z;`:                                api.ErrWide,
		many + `wire w:1; inst u:k(a=z);`:                            api.ErrBound,
		many + `wire w:1; inst u:k();`:                               api.ErrPort,
		many + `wire w:1; inst u:k#(N=0)(a=1);`:                      api.ErrWide,
		many + `inst u:k2(a=z,b=1);`:                                 api.ErrBound,
		many + `inst u:k2#(N=0)(a=z,b=1);`:                           api.ErrWide,
		`for s(i=0..64){wire s0:64;}`:                                api.OK,
		`for s(i=0..64){wire s0:64;} wire v:1; assign z=1;`:          api.ErrBound,
		`for s(i=0..64){wire s0:64;} wire v:0;`:                      api.ErrWide,
		`for s(i=0..64){wire s0:64;} reg v:1=z;`:                     api.ErrFree,
		`for s(i=0..64){wire s0:64;} reg v:1=0;`:                     api.ErrBound,
		`for s(i=0..64){wire s0:64;} inst u:k(a=z);`:                 api.ErrBound,
		`for s(i=0..63){wire s0:64;} wire v:63; reg w:1=0;`:          api.OK,
		`for s(i=0..63){wire s0:64;} wire v:63; wire w:2;`:           api.ErrBound,
		`for s(i=0..63){wire s0:64;} wire v:63; wire w:1; wire u:1;`: api.ErrBound,
		`for s(i=0..512){reg w:8=0;}`:                                api.OK,
		`for s(i=0..512){reg w:8+(i==511)=0;}`:                       api.ErrBound,
		`for s(i=0..513){reg w:1=0;}`:                                api.ErrBound,
	} {
		const k = `module k#(N=1)(in a:N){} module k2#(N=1)(in a:1,in b:N){} `
		if _, e := elab.Elab(file(t, k+`module m(){`+items+`}`), "m", nil); e != want {
			t.Errorf("%s: error %d, want %d", items, e, want)
		}
	}
}

// TestManyPorts: those of the top are signals like all others.
func TestManyPorts(t *testing.T) {
	ports := func(n, w int) string {
		var l []string
		for i := range n {
			l = append(l, fmt.Sprintf("%s p%d:%d", word(i%2, "in", "out"), i, w))
		}
		return strings.Join(l, ",")
	}
	d, e := elab.Elab(file(t, `module m(`+ports(512, 8)+`){}`), "m", nil)
	if e != api.OK || len(elab.Ports(d, api.InK)) != 256 || len(elab.Ports(d, api.OutK)) != 256 {
		t.Errorf("error %d: %s", e, show(d))
	}
	if n, ok := elab.Find(d, "p511"); n != 511 || !ok {
		t.Errorf("Find p511: %d, %v", n, ok)
	}
	fails(t, `module m(`+ports(513, 1)+`){assign z=1;}`, "m", api.ErrBound)
	fails(t, `module m(`+ports(512, 1)+`,in q:0){assign z=1;}`, "m", api.ErrWide)
	fails(t, `module m(`+ports(65, 64)+`){assign z=1;}`, "m", api.ErrBound)
	fails(t, `module m(`+ports(512, 1)+`){wire w:1;}`, "m", api.ErrBound)
	lays(t, `module m(`+ports(64, 64)+`){const C=1; check c:C;}`, "m", strings.ReplaceAll(strings.ReplaceAll(ports(64, 64), ",", ", "), "  ", " ")+" /  / c: 1")
}

func TestManyProcesses(t *testing.T) {
	const many = `for p(i=0..1023){comb{}} `
	for items, want := range map[string]api.Errno{
		many + `assign y=1;`:                     api.OK,
		many + `comb{y=1;}`:                      api.OK,
		many + `on tick{q<=1;}`:                  api.OK,
		many + `inst u:i(a=1);`:                  api.OK,
		many + `inst u:o(y=y);`:                  api.OK,
		many + `comb{} wire w:1; check c:w;`:     api.OK,
		many + `comb{} assign y=1; wire w:0;`:    api.ErrBound,
		many + `comb{} assign y=z;`:              api.ErrNoName,
		many + `comb{} assign z=1;`:              api.ErrNoName,
		many + `comb{} assign q=1;`:              api.ErrRole,
		many + `comb{} comb{}  wire w:0;`:        api.ErrBound,
		many + `comb{} comb{y=1; y=z;}`:          api.ErrNoName,
		many + `comb{} on tick{q<=1;} wire w:0;`: api.ErrBound,
		many + `comb{} on tick{q<=z;}`:           api.ErrNoName,
		many + `comb{} on tick{y<=1;}`:           api.ErrRole,
		many + `comb{} inst u:i(a=1); wire w:0;`: api.ErrBound,
		many + `comb{} inst u:i(a=z);`:           api.ErrNoName,
		many + `inst u:i2(a=1,b=z);`:             api.ErrNoName,
		many + `inst u:i2(a=1,b=1); wire w:0;`:   api.ErrBound,
		many + `comb{} inst u:o();`:              api.OK,
		many + `comb{} inst u:o(y=y); wire w:0;`: api.ErrBound,
		many + `comb{} inst u:o(y=1);`:           api.ErrRole,
		many + `comb{} inst u:o(y=z);`:           api.ErrNoName,
		`for p(i=0..1024){assign y=1;}`:          api.OK,
		`for p(i=0..1025){assign y=1;}`:          api.ErrBound,
		`for p(i=0..512){inst u:n();}`:           api.OK,
		`for p(i=0..513){inst u:n();}`:           api.ErrBound,
	} {
		const k = `module i(in a:1){} module i2(in a:1,in b:1){} module o(out y:1){} module n(){comb{} on tick{}} `
		if _, e := elab.Elab(file(t, k+`module m(out y:1){reg q:1=0; `+items+`}`), "m", nil); e != want {
			t.Errorf("%s: error %d, want %d", items, e, want)
		}
	}
}

// TestGreatExpressions: a node is told to be too great behind its parts, and ahead of what stands behind it.
func TestGreatExpressions(t *testing.T) {
	for _, x := range []string{`~$`, `-$`, `!$`, `a[$]`, `zext(9,$)`, `trunc(1,$)`, `{$}`, `{1{$}}`} {
		holds := func(x string, want api.Errno) {
			t.Helper()
			fails(t, `module m(in a:1){check c:`+x+`;}`, "m", want)
		}
		small, great := strings.ReplaceAll(x, "$", exact(api.MaxNodes-1)), strings.ReplaceAll(x, "$", exact(api.MaxNodes))
		holds(small, api.ErrBound)
		holds(`{`+small+`,z}`, api.ErrNoName)
		holds(`{`+great+`,z}`, api.ErrBound)
		holds(`{z,`+great+`}`, api.ErrNoName)
		holds(`{a[1:0],`+great+`}`, api.ErrSlice)
		holds(`{{`+great+`},a[1:0]}`, api.ErrBound)
	}
	half := exact(api.MaxNodes - 700)
	for x, want := range map[string]api.Errno{
		`{` + exact(api.MaxNodes) + `,z}`:       api.ErrNoName,
		`{` + exact(api.MaxNodes+1) + `,z}`:     api.ErrBound,
		`{` + half + `,` + half + `,z}`:         api.ErrNoName,
		`{` + half + `,` + half + `}+z`:         api.ErrBound,
		half + `+(` + half + `+z)`:              api.ErrNoName,
		half + `+` + half + `+z`:                api.ErrBound,
		`a?` + half + `:(` + half + `+z)`:       api.ErrNoName,
		`(a?` + half + `:` + half + `)+z`:       api.ErrBound,
		`{2{` + half + `+z}}`:                   api.ErrNoName,
		`{2{` + half + `}}+z`:                   api.ErrBound,
		`{65{` + half + `+z}}`:                  api.ErrWide,
		`{z{` + exact(api.MaxNodes+1) + `}}`:    api.ErrFree,
		`zext(0,` + exact(api.MaxNodes+1) + `)`: api.ErrWide,
		`z[` + exact(api.MaxNodes+1) + `]`:      api.ErrNoName,
	} {
		fails(t, `module m(in a:1){check c:`+x+`;}`, "m", want)
	}
}

// TestNothingIsMadeInVain: of an expression of hundreds of millions of nodes none is made.
func TestNothingIsMadeInVain(t *testing.T) {
	text := `module m(in a:1){check c:{` + strings.Repeat(`{63{{64{{15{a}}}}}},`, 3000) + `$};}`
	fails(t, strings.ReplaceAll(text, "$", "a"), "m", api.ErrBound)
	fails(t, strings.ReplaceAll(text, "$", "z"), "m", api.ErrNoName)
}
