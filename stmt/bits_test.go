package stmt_test

import (
	"slices"
	"testing"

	"filigree/api"
	"filigree/stmt"
)

// tells wants which bits a call tells.
func tells(t *testing.T, what any, call func(d api.Flat, p int) ([]int, api.Errno), d api.Flat, p int, want []int) {
	t.Helper()
	if got, err := call(d, p); err != api.OK || !slices.Equal(got, want) {
		t.Errorf("%v: %d, error %d, want %d", what, got, err, want)
	}
}

// TestExample holds the chapter's example.
func TestExample(t *testing.T) {
	d := api.Flat{Signals: []api.Signal{{Name: "a", W: 1, Kind: api.InK}, {Name: "b", W: 1, Kind: api.InK}, {Name: "y", W: 1, Kind: api.OutK}, {Name: "z", W: 1, Kind: api.OutK}}}
	d.Procs = []api.Proc{{L: []api.T{set(2, 0, 0, bitsOf(0, 0, 0)), choice(bitsOf(0, 0, 0), block(set(3, 0, 0, bitsOf(1, 0, 0))), block())}}}
	tells(t, "reads", stmt.Reads, d, 0, []int{0, 1})
	tells(t, "writes", stmt.Writes, d, 0, []int{2, 3})
	tells(t, "always", stmt.Always, d, 0, []int{2})
	makes(t, "a", d, []uint64{1, 1, 0, 0}, 0, []uint64{1, 1, 1, 1})
	makes(t, "not a", d, []uint64{0, 1, 1, 0}, 0, []uint64{0, 1, 0, 0})
}

func TestBits(t *testing.T) {
	all := func(d api.Flat, _ int) ([]int, api.Errno) { return stmt.Bits(d) }
	tells(t, "most tests' signals", all, design(t, `comb{}`), 0, []int{0, 1, 2, 4, 8, 72, 73, 77, 141, 149, 153, 155, 219})
	tells(t, "no signals", all, api.Flat{}, 0, []int{0})
	tells(t, "one signal", all, api.Flat{Signals: []api.Signal{{Name: "a", W: 64, Kind: api.InK}}}, 0, []int{0, 64})
	tells(t, "signals of all kinds", all, api.Flat{Signals: []api.Signal{{Name: "a", W: 3, Kind: api.WireK}, {Name: "b", W: 1, Kind: api.RegK, Init: 1}, {Name: "c", W: 7, Kind: api.OutK}, {Name: "d", W: 64, Kind: api.InK}}}, 0, []int{0, 3, 4, 11, 75})
}

func TestReads(t *testing.T) {
	for text, want := range map[string]string{
		`comb{}`: ``, `comb{y=1;}`: ``, `comb{y=a;}`: `a`, `comb{z=d;}`: `d`, `comb{y=d[3:3];}`: `d[3]`, `comb{z[1:0]=d[2:1];}`: `d[2:1]`, `comb{z[3]=w[63:63];}`: `w[63]`, `comb{x=w;}`: `w`, `comb{x[62:0]=w[62:0];}`: `w[62:0]`,
		// A signal at an index is read whole, even if only one of its bits can be meant.
		`comb{y=d[1];}`: `d`, `comb{y=d[c];}`: `c d`, `comb{y=w[z];}`: `w z`, `comb{y=d[9];}`: `d`, `comb{y=d[c[u[2:2]]];}`: `c d u[2]`, `comb{y=d[c[1:1]];}`: `c[1] d`,
		// What is written is not read, unless it stands in an expression, too: ahead of that, or behind.
		`comb{z=1; y=z[2:2];}`: `z[2]`, `comb{y=z[2:2]; z=1;}`: `z[2]`, `comb{z=z+1;}`: `z`, `comb{z[0]=z[1:1];}`: `z[1]`,
		`comb{z=a?d:{c,c}; u=8'd0;}`: `a c d`, `comb{u={d,c,a,b};}`: `a b c d`, `comb{z=d*0;}`: `d`, `comb{z=zext(4,c[1:1]);}`: `c[1]`, `comb{y=!(|d[2:1]);}`: `d[2:1]`,
		`comb{z=d; u={d[0:0],d[3:3],d[1:1],z,c[0:0]};}`: `c[0] d z`, `comb{y=a; y=a;}`: `a`,
		`comb{if(a){z=d;}else{y=b;}}`: `a b d`, `comb{if(a){}}`: `a`, `comb{if(0){y=b;}}`: `b`, `comb{if(d[2:1]==c){z[0]=w[5:5];}else if(b){z=0;}else{z=u[7:4];}}`: `b c d[2:1] w[5] u[7:4]`,
		`comb{case(c){0:{z=d;} 1,2:{y=a;} else:{y=b;}}}`: `a b c d`, `comb{case(c){}}`: `c`, `comb{case(d[c]){1:{} else:{}}}`: `c d`, `comb{case(1'd1){0:{y=a;} else:{if(b){z={4{c[0:0]}};}}}}`: `a b c[0]`,
		`comb{{y=a; {z=d;}} for(i=0..2){u[i]=w[i:i];}}`: `a d w[1:0]`,
		`on tick{q<=q+1;}`: `q`, `on tick{r<=q[2:1]; if(a){s<=w;}}`: `a w q[2:1]`, `on tick{q<=0;}`: ``, `assign z=d;`: `d`,
	} {
		tells(t, text, stmt.Reads, design(t, text), tested, places(t, want))
	}
}

func TestWrites(t *testing.T) {
	for text, want := range map[string]string{
		`comb{}`: ``, `comb{if(a){}}`: ``, `comb{y=1;}`: `y`, `comb{z=d;}`: `z`, `comb{z[2]=a;}`: `z[2]`, `comb{z[2:1]=c;}`: `z[2:1]`, `comb{x=w;}`: `x`, `comb{x[63]=a;}`: `x[63]`, `comb{x[62:1]=w[62:1];}`: `x[62:1]`,
		`comb{z[3]=a; z[0]=a;}`: `z[0] z[3]`, `comb{z[2:1]=1; z[3:2]=1;}`: `z[3:1]`, `comb{z=1; z=2; z[1]=0;}`: `z`, `comb{u=1; y=1; z=1;}`: `y z u`,
		`comb{if(a){z[0]=1;}else{z[3]=1;}}`: `z[0] z[3]`, `comb{if(0){y=1;}}`: `y`, `comb{if(a){if(b){y=1;}else{u[4]=1;}}}`: `y u[4]`,
		`comb{case(c){0:{y=1;} 1,2:{z=1;} else:{u[7]=1;}}}`: `y z u[7]`, `comb{case(c){else:{y=1;}}}`: `y`, `comb{case(c){0:{case(d){1:{z[1]=1;}}}}}`: `z[1]`,
		`comb{{{z[1]=1;}} for(i=4..6){u[i]=1;}}`:           `z[1] u[5:4]`,
		`on tick{q[2]<=1; if(a){r<=1;}else{s[63:62]<=1;}}`: `q[2] r s[63:62]`, `assign u[3:2]=c;`: `u[3:2]`,
	} {
		tells(t, text, stmt.Writes, design(t, text), tested, places(t, want))
	}
}

func TestAlways(t *testing.T) {
	for text, want := range map[string]string{
		`comb{}`: ``, `comb{y=1;}`: `y`, `comb{z[2:1]=c;}`: `z[2:1]`, `comb{z[3]=a; z[0]=a; z[0]=b;}`: `z[0] z[3]`, `comb{x=w; u[7]=1;}`: `x u[7]`,
		`comb{if(a){z=1;}}`: ``, `comb{if(a){}else{z=1;}}`: ``, `comb{if(a){z=1;}else{z=2;}}`: `z`, `comb{if(a){z=1; y=0;}else{u=0; y=1;}}`: `y`, `comb{if(a){z[2:0]=1;}else{z[3:1]=2;}}`: `z[2:1]`, `comb{if(a){z=1;}else{z[0]=1; z[3]=1;}}`: `z[0] z[3]`, `comb{if(a){z[3]=1; z[0]=1;}else{z=1;}}`: `z[0] z[3]`, `comb{if(a){y=1;}else{z=1;}}`: ``,
		`comb{y=0; if(a){y=1; z=1;}}`: `y`, `comb{if(a){z=1;} y=0;}`: `y`, `comb{if(a){z=1;}else{z=0;} if(b){y=1;}else{y=0;}}`: `y z`,
		// What a choice hangs on makes no difference, neither a number, nor what another one hangs on.
		`comb{if(1){y=0;}}`: ``, `comb{if(a){y=1;} if(!a){y=0;}}`: ``, `comb{if(a){y=1;}else if(!a){y=0;}}`: ``,
		`comb{if(a){if(b){y=1;}else{y=0;}}else{y=b;}}`: `y`, `comb{if(a){if(b){y=1;}}else{y=b;}}`: ``, `comb{if(a){y=1;}else if(b){y=0;}else{y=1; z=1;}}`: `y`, `comb{if(a){y=1;}else if(b){y=0;}}`: ``,
		`comb{case(c){0:{y=0;} 1:{y=1;} else:{y=0;}}}`: `y`, `comb{case(c){0:{y=0;} 1:{y=1;} else:{}}}`: ``, `comb{case(c){0:{y=0;} 1:{} else:{y=1;}}}`: ``, `comb{case(c){0:{} 1:{y=0;} else:{y=1;}}}`: ``, `comb{case(c){else:{y=0;}}}`: `y`, `comb{case(c){}}`: ``,
		// All labels that there can be make no difference: the last arm is a way, too.
		`comb{case(a){0:{y=0;} 1:{y=1;}}}`: ``, `comb{case(c){0,1,2,3:{y=0;}}}`: ``,
		`comb{case(c){0:{z[2:0]=0;} 1:{z[3:1]=0;} else:{z[2:1]=0; y=0;}}}`: `z[2:1]`, `comb{case(c){0:{z=0;} 1:{z[0]=0; z[3]=0;} 2:{z[3]=0; z[1]=1;} else:{z=1; y=0;}}}`: `z[3]`, `comb{case(c){0:{z[3]=0;} 1:{z[0]=0; z[3]=0;} 2:{z[0]=1;} else:{z=1;}}}`: ``, `comb{case(c){0:{if(a){y=1;}else{y=0;}} else:{case(d){1,2:{y=1;} else:{z=1; y=0;}}}}}`: `y`,
		`comb{{y=1; {z[1]=1;}} for(i=4..6){u[i]=1;}}`: `y z[1] u[5:4]`, `comb{if(a){{z=1;}}else{{{z=2;}} y=1;}}`: `z`,
		`on tick{q<=1; if(a){r<=1;}}`: `q`, `on tick{if(a){r<=1;}else{r[1]<=0;}}`: `r[1]`, `assign u[3:2]=c;`: `u[3:2]`,
	} {
		tells(t, text, stmt.Always, design(t, text), tested, places(t, want))
	}
}

// TestWhichProcessTells: the bits are those of the process that is told.
func TestWhichProcessTells(t *testing.T) {
	d := laid(t, `comb{z=d;} on tick{q<=d+q;} comb{} comb{if(a){y=b;}}`)
	for p, want := range []struct{ reads, writes, always string }{{`d`, `z`, `z`}, {`d q`, `q`, `q`}, {}, {`a b`, `y`, ``}} {
		tells(t, p, stmt.Reads, d, p, places(t, want.reads))
		tells(t, p, stmt.Writes, d, p, places(t, want.writes))
		tells(t, p, stmt.Always, d, p, places(t, want.always))
	}
}
