package elab_test

import (
	"fmt"
	"strings"
	"testing"

	"filigree/api"
	"filigree/elab"
)

// TestNamesFirst: what layer 7 says of a file is told ahead of all else, whichever module is asked for.
func TestNamesFirst(t *testing.T) {
	bad := api.Named{Name: "nothing", V: -1}
	for text, want := range map[string]api.Errno{
		`module m(){} module m(){}`:                                       api.ErrTwice,
		`module m(){} module n(){wire w:1; wire w:1;}`:                    api.ErrTwice,
		`module m(){wire w:0; assign z=1;} module n(){inst u:nowhere();}`: api.ErrNoModule,
		`module m(){wire w:0; if(0){inst u:m();}}`:                        api.ErrRing,
	} {
		for _, top := range []string{"m", "n", "nowhere", ""} {
			fails(t, text, top, want)
			fails(t, text, top, want, bad)
		}
	}
	f := file(t, `module m(){wire w:0;}`)
	for _, top := range []string{"m", "x"} {
		f.Modules = append(f.Modules[:1:1], api.Module{Name: "if"})
		wrong(t, "a word as a name", f, top, api.ErrArg, bad)
		f.Modules = append(f.Modules, make([]api.Module, api.MaxModules-1)...)
		wrong(t, "too many modules", f, top, api.ErrBound, bad)
	}
}

func TestNoTop(t *testing.T) {
	wrong(t, "no modules", api.File{}, "m", api.ErrNoModule)
	wrong(t, "no modules", api.File{}, "", api.ErrNoModule)
	for _, top := range []string{"", "M", "mm", "if", "n"} {
		fails(t, `module m#(N=1)(){wire w:0;}`, top, api.ErrNoModule)
		fails(t, `module m#(N=1)(){}`, top, api.ErrNoModule, api.Named{Name: "Z"})
		fails(t, `module m#(N=1)(){}`, top, api.ErrNoModule, api.Named{Name: "N", V: -1})
	}
}

// told is parameters, written as "N=1 M=2".
func told(t *testing.T, text string) []api.Named {
	t.Helper()
	var l []api.Named
	for _, one := range strings.Fields(text) {
		name, value, _ := strings.Cut(one, "=")
		v := 0
		if _, e := fmt.Sscan(value, &v); e != nil {
			t.Fatal(text, e)
		}
		l = append(l, api.Named{Name: name, V: v})
	}
	return l
}

// TestToldParameters: one after the other, and all of them ahead of the module.
func TestToldParameters(t *testing.T) {
	const text = `module m#(N=1,M=2)(in a:64-N-M){wire w:N-1; assign z=1;}`
	for params, want := range map[string]api.Errno{
		``:                         api.ErrWide,
		`N=2`:                      api.ErrNoName,
		`N=2 M=61`:                 api.ErrNoName,
		`N=2 M=62`:                 api.ErrWide,
		`N=2 M=63`:                 api.ErrOver,
		`K=1`:                      api.ErrParam,
		`a=1`:                      api.ErrParam,
		`w=1`:                      api.ErrParam,
		`=1`:                       api.ErrParam,
		`N=1 N=1`:                  api.ErrParam,
		`N=1 M=1 N=1`:              api.ErrParam,
		`M=1 M=1 N=-1`:             api.ErrParam,
		`N=-1`:                     api.ErrOver,
		`N=2147483648`:             api.ErrOver,
		`N=-9223372036854775808`:   api.ErrOver,
		`N=9223372036854775807`:    api.ErrOver,
		`N=2147483647`:             api.ErrOver,
		`N=-1 K=1`:                 api.ErrOver,
		`K=1 N=-1`:                 api.ErrParam,
		`K=-1`:                     api.ErrParam,
		`N=1 N=-1`:                 api.ErrParam,
		`M=-1 N=1 N=1`:             api.ErrOver,
		`N=1 M=0 M=2147483648 K=1`: api.ErrParam,
	} {
		fails(t, text, "m", want, told(t, params)...)
	}
	lays(t, `module m#(N=1,M=2)(){check c:{N,M};}`, "m", " /  / c: cat(2147483647, 0)", told(t, `M=0 N=2147483647`)...)
}

// TestItemsWrong: what is wrong with an item of each kind, and which fault is come to first.
func TestItemsWrong(t *testing.T) {
	for text, want := range map[string]api.Errno{
		`const D=a;`:                        api.ErrFree,
		`const D=8'h1;`:                     api.ErrKonst,
		`const D=0-1;`:                      api.ErrOver,
		`const D=a[0];`:                     api.ErrKonst,
		`wire r:0;`:                         api.ErrWide,
		`wire r:65;`:                        api.ErrWide,
		`wire r:a;`:                         api.ErrFree,
		`wire r:4'h4;`:                      api.ErrKonst,
		`wire r:1-2;`:                       api.ErrOver,
		`reg r:0=0;`:                        api.ErrWide,
		`reg r:0=z;`:                        api.ErrWide,
		`reg r:z=8'h1+1;`:                   api.ErrFree,
		`reg r:1=z;`:                        api.ErrFree,
		`reg r:1=8'h1+1;`:                   api.ErrKonst,
		`reg r:1=1-2;`:                      api.ErrOver,
		`reg r:1=2147483648+0;`:             api.ErrOver,
		`assign z=1;`:                       api.ErrNoName,
		`assign z[1-2:0]=z;`:                api.ErrNoName,
		`assign C=1;`:                       api.ErrNoName,
		`assign C[0]=1;`:                    api.ErrNoName,
		`assign y=z;`:                       api.ErrNoName,
		`assign a=z;`:                       api.ErrRole,
		`assign a[8]=z;`:                    api.ErrSlice,
		`assign q=1;`:                       api.ErrRole,
		`assign y[8]=1;`:                    api.ErrSlice,
		`assign y[8:0]=1;`:                  api.ErrSlice,
		`assign y[0:1]=z;`:                  api.ErrSlice,
		`assign y[z:8]=1;`:                  api.ErrFree,
		`assign y[8:z]=1;`:                  api.ErrFree,
		`assign y[1-2:z]=1;`:                api.ErrOver,
		`assign y[z:1-2]=1;`:                api.ErrFree,
		`assign y[0:0-1]=1;`:                api.ErrOver,
		`assign y[a]=1;`:                    api.ErrFree,
		`assign y[1'b1]=1;`:                 api.ErrKonst,
		`comb{y=z; z=1;}`:                   api.ErrNoName,
		`comb{q=1;}`:                        api.ErrRole,
		`comb{a=1;}`:                        api.ErrRole,
		`comb{q=z;}`:                        api.ErrRole,
		`on tick{y<=1;}`:                    api.ErrRole,
		`on tick{a<=1;}`:                    api.ErrRole,
		`on tick{w<=z;}`:                    api.ErrRole,
		`on tick{q[1]<=z;}`:                 api.ErrSlice,
		`on tick{w[9]<=z;}`:                 api.ErrSlice,
		`if(a){}`:                           api.ErrFree,
		`if(1'b1){}`:                        api.ErrKonst,
		`if(1-2){}`:                         api.ErrOver,
		`if(q==q){}`:                        api.ErrFree,
		`for l(i=z..8'h1){}`:                api.ErrFree,
		`for l(i=8'h1..z){}`:                api.ErrKonst,
		`for l(i=0..z){}`:                   api.ErrFree,
		`for l(i=9..z){}`:                   api.ErrFree,
		`for l(i=0..0-1){}`:                 api.ErrOver,
		`for l(i=0..2147483648){wire r:0;}`: api.ErrOver,
		`for l(i=0..2147483647){wire r:0;}`: api.ErrWide,
		`for l(i=0..2){wire r:1-i;}`:        api.ErrWide,
		`check c:z;`:                        api.ErrNoName,
		`check c:l;`:                        api.ErrNoName,
		`check c:c;`:                        api.ErrNoName,
	} {
		fails(t, `module m(in a:8,out y:8){const C=1; wire w:8; reg q:1=0; `+text+`}`, "m", want)
		fails(t, `module m(in a:8,out y:8){const C=1; wire w:8; reg q:1=0; `+text+` wire late:1-2; assign z=1;}`, "m", want)
		fails(t, `module m(in a:8,out y:8){const C=1; wire w:8; reg q:1=0; if(1){}else{wire v:0;} for j(k=0..1){`+text+`}}`, "m", want)
	}
}

// TestPortsWrong: a port's width is asked for by the parameters, in order.
func TestPortsWrong(t *testing.T) {
	for head, want := range map[string]api.Errno{
		`(in a:0)`:                   api.ErrWide,
		`(in a:65)`:                  api.ErrWide,
		`(in a:z)`:                   api.ErrFree,
		`(in a:1,in b:a)`:            api.ErrFree,
		`(in a:8'h1)`:                api.ErrKonst,
		`#(N=8'h1,M=z)(in a:0)`:      api.ErrKonst,
		`#(N=0-1)(in a:z)`:           api.ErrOver,
		`#(N=0)(in a:N,out y:z)`:     api.ErrWide,
		`#(N=0)(in a:N+1,out y:z)`:   api.ErrFree,
		`#(N=0)(out y:1,out x:N*64)`: api.ErrWide,
	} {
		fails(t, `module m`+head+`{assign z=1;}`, "m", want)
	}
}

// TestInstancesWrong: parameters, binds, ports that are missing, then what is laid out.
func TestInstancesWrong(t *testing.T) {
	for inst, want := range map[string]api.Errno{
		`#(K=z)(a=1)`:              api.ErrParam,
		`#(a=1)(a=1)`:              api.ErrParam,
		`#(N=1,N=z)(a=1)`:          api.ErrParam,
		`#(N=z,N=1)(a=1)`:          api.ErrFree,
		`#(N=z,K=1)(b=1)`:          api.ErrFree,
		`#(N=1,M=1,N=1)(b=1)`:      api.ErrParam,
		`#(N=8'h1)(b=1)`:           api.ErrKonst,
		`#(N=0-1)()`:               api.ErrOver,
		`#(N=0)(b=1)`:              api.ErrPort,
		`#(N=0)(N=1)`:              api.ErrPort,
		`#(N=0)(w=1,a=1)`:          api.ErrPort,
		`#(N=0)(a=1,a=1)`:          api.ErrPort,
		`#(N=0)(a=1,y=v,y=v)`:      api.ErrPort,
		`#(N=0)()`:                 api.ErrPort,
		`#(N=0)(y=v)`:              api.ErrPort,
		`#(N=0)(a=z)`:              api.ErrWide,
		`#(M=0)(a=z,y=z)`:          api.ErrWide,
		`(a=z,y=1)`:                api.ErrNoName,
		`(y=z,a=1)`:                api.ErrNoName,
		`(a=1,y=1)`:                api.ErrRole,
		`(a=1,y={v})`:              api.ErrRole,
		`(a=1,y=z+1)`:              api.ErrRole,
		`(a=1,y=~v)`:               api.ErrRole,
		`(a=1,y=zext(1-2,z))`:      api.ErrRole,
		`(a=1,y=x)`:                api.ErrRole,
		`(a=1,y=q)`:                api.ErrRole,
		`(a=1,y=v[1])`:             api.ErrSlice,
		`(a=1,y=v[1:0])`:           api.ErrSlice,
		`(a=1,y=v[z])`:             api.ErrFree,
		`(a=1,y=v[x])`:             api.ErrFree,
		`(a=1,y=C)`:                api.ErrNoName,
		`(a=1,y=u)`:                api.ErrNoName,
		`(a=a)`:                    api.ErrNoName,
		`(a=w)`:                    api.ErrNoName,
		`(a=x[1:0])`:               api.ErrSlice,
		`#(N=2)(a=x,y=v)`:          api.ErrFree,
		`#(N=2)(a=z,y=1)`:          api.ErrNoName,
		`#(N=2)(a=x,y=1)`:          api.ErrFree,
		`#(M=3,N=2147483647)(a=1)`: api.ErrWide,
	} {
		const k = `module k#(N=1,M=N)(in a:N,out y:M){wire w:1; if(N==2){wire v:late;}} `
		fails(t, k+`module m(in x:1){const C=1; wire v:1; reg q:1=0; inst u:k`+inst+`;}`, "m", want)
		fails(t, k+`module m(in x:1){const C=1; wire v:1; reg q:1=0; inst u:k`+inst+`; wire late:1-2; assign z=1;}`, "m", want)
		fails(t, k+`module n(in x:1){const C=1; wire v:1; reg q:1=0; if(x){} inst u:k`+inst+`;} module m(){inst u:n(x=1,x=z);}`, "m", api.ErrPort)
	}
}

// TestPortsInTheirOrder: binds are gone through as they stand, what is joined as the ports do.
func TestPortsInTheirOrder(t *testing.T) {
	const k = `module k(in a:1,in b:1,out x:1,out y:1){} `
	for binds, want := range map[string]api.Errno{
		`b=z,a=v[1:0]`:                  api.ErrSlice,
		`a=z,b=v[1:0]`:                  api.ErrNoName,
		`y=z,b=1,a=1,x=1`:               api.ErrRole,
		`x=z,b=1,a=1,y=1`:               api.ErrNoName,
		`y=1,x=z,b=v[1:0],a=1`:          api.ErrSlice,
		`y=z,a=1`:                       api.ErrPort,
		`y=z,a=1,b=1,c=1`:               api.ErrPort,
		`y=v[1:0],a=1,b=1`:              api.ErrSlice,
		`x=v,y=v[2147483647:0],b=1,a=1`: api.ErrSlice,
	} {
		fails(t, k+`module m(){wire v:1; inst u:k(`+binds+`);}`, "m", want)
	}
	lays(t, k+`module m(){wire v:1; wire w:1; inst u:k(y=v,b=0,x=w,a=1);}`, "m",
		"wire v:1, wire w:1, wire u.a:1, wire u.b:1, wire u.x:1, wire u.y:1 / {u.a[0:0] = 1} {u.b[0:0] = 0} {w[0:0] = u.x[0:0]} {v[0:0] = u.y[0:0]} / ")
}

func TestStatementsWrong(t *testing.T) {
	for text, want := range map[string]api.Errno{
		`z=y[8:0];`:                             api.ErrNoName,
		`y=y[8:0];`:                             api.ErrSlice,
		`y[8]=z;`:                               api.ErrSlice,
		`if(z){y[8]=1;}`:                        api.ErrNoName,
		`if(y[8:0]){z=1;}`:                      api.ErrSlice,
		`if(1){y[8]=1;}else{z=1;}`:              api.ErrSlice,
		`if(1){}else{z=1;}`:                     api.ErrNoName,
		`if(1){}else if(z){y[8]=1;}`:            api.ErrNoName,
		`if(1){}else if(1){}else{z=1;}`:         api.ErrNoName,
		`case(z){8'h1+1:{}}`:                    api.ErrNoName,
		`case(y){8'h1+1:{z=1;}}`:                api.ErrKonst,
		`case(y){1:{z=1;} z:{}}`:                api.ErrNoName,
		`case(y){z:{} 1-2:{}}`:                  api.ErrFree,
		`case(y){1-2,z:{}}`:                     api.ErrOver,
		`case(y){1,y:{}}`:                       api.ErrFree,
		`case(y){2147483648+0:{}}`:              api.ErrOver,
		`case(y){1:{} else:{z=1;}}`:             api.ErrNoName,
		`{{{z=1;}}}`:                            api.ErrNoName,
		`for(i=z..8'h1){}`:                      api.ErrFree,
		`for(i=8'h1..z){}`:                      api.ErrKonst,
		`for(i=0..z){}`:                         api.ErrFree,
		`for(i=9..1-2){}`:                       api.ErrOver,
		`for(i=0..y){}`:                         api.ErrFree,
		`for(i=0..9){y[i]=1;}`:                  api.ErrSlice,
		`for(i=0..2147483647){y[i]=1;}`:         api.ErrSlice,
		`for(i=1..9){if(i){y[i+6]=y;}}`:         api.ErrSlice,
		`for(i=0..2){y=i[0];}`:                  api.ErrNoName,
		`for(i=0..2){i=1;}`:                     api.ErrNoName,
		`for(i=0..3){for(j=i..2-i-i){y[j]=1;}}`: api.ErrOver,
	} {
		fails(t, `module m(out y:8){comb{`+text+`}}`, "m", want)
		fails(t, `module m(out y:8){wire w:1; comb{w=1; if(w){}else if(1){`+text+`} w[7]=1;} wire v:1-2;}`, "m", want)
		clocked := strings.NewReplacer("]=", "]<=", "z=1;", "z<=1;", "z=y", "z<=y", "y=", "y<=", "i=1;", "i<=1;").Replace(text)
		fails(t, `module m(){reg y:8=0; on tick{`+clocked+`}}`, "m", want)
	}
}

func TestExpressionsWrong(t *testing.T) {
	for x, want := range map[string]api.Errno{
		`z`:                         api.ErrNoName,
		`z[1-2:0]`:                  api.ErrNoName,
		`z[z]`:                      api.ErrNoName,
		`C[0]`:                      api.ErrNoName,
		`C[0:0]`:                    api.ErrNoName,
		`m`:                         api.ErrNoName,
		`c`:                         api.ErrNoName,
		`a[8:0]`:                    api.ErrSlice,
		`a[0:1]`:                    api.ErrSlice,
		`a[2147483647:0]`:           api.ErrSlice,
		`a[z:0-1]`:                  api.ErrFree,
		`a[0-1:z]`:                  api.ErrOver,
		`a[a:0]`:                    api.ErrFree,
		`a[7:a]`:                    api.ErrFree,
		`a[1'b1:0]`:                 api.ErrKonst,
		`a[8:1'b0]`:                 api.ErrKonst,
		`a[z]`:                      api.ErrNoName,
		`a[a[8:0]]`:                 api.ErrSlice,
		`~z`:                        api.ErrNoName,
		`z+a[8:0]`:                  api.ErrNoName,
		`a[8:0]+z`:                  api.ErrSlice,
		`z?a[8:0]:0`:                api.ErrNoName,
		`1?a[8:0]:z`:                api.ErrSlice,
		`0?1:z`:                     api.ErrNoName,
		`{a,a[8:0],z}`:              api.ErrSlice,
		`{0{z}}`:                    api.ErrWide,
		`{65{z}}`:                   api.ErrWide,
		`{a{z}}`:                    api.ErrFree,
		`{8'h2{z}}`:                 api.ErrKonst,
		`{1-2{z}}`:                  api.ErrOver,
		`{2{z}}`:                    api.ErrNoName,
		`{1{a[8:0]}}`:               api.ErrSlice,
		`zext(0,z)`:                 api.ErrWide,
		`sext(65,z)`:                api.ErrWide,
		`trunc(a,z)`:                api.ErrFree,
		`zext(8'h1,z)`:              api.ErrKonst,
		`zext(1-2,z)`:               api.ErrOver,
		`zext(9,z)`:                 api.ErrNoName,
		`zext(9,a[9:9])+z`:          api.ErrSlice,
		`a[C-2:0]`:                  api.ErrOver,
		`a[C-2+8]`:                  api.OK,
		`(1<<31)+a`:                 api.OK,
		`2147483648`:                api.OK,
		`a[18446744073709551615:0]`: api.ErrOver,
	} {
		for _, text := range []string{`check c:`, `assign y=`, `wire w:1; assign w=`} {
			text = `module m(in a:8,out y:8){const C=1; ` + text + x + `;}`
			if want != api.OK {
				fails(t, text, "m", want)
			} else if _, e := elab.Elab(file(t, text), "m", nil); e != api.OK {
				t.Errorf("%s: error %d", text, e)
			}
		}
	}
}
