package stmt_test

import (
	"slices"
	"testing"

	"filigree/api"
	"filigree/stmt"
)

// makes wants what a process makes of values.
func makes(t *testing.T, what any, d api.Flat, v []uint64, p int, want []uint64) {
	t.Helper()
	if got, err := stmt.Run(d, v, p); err != api.OK || !slices.Equal(got, want) {
		t.Errorf("%v: %x, error %d, want %x", what, got, err, want)
	}
}

// change wants which signals processes change, and to what; all others are to stay.
func change(t *testing.T, texts map[string]string) {
	t.Helper()
	for text, changes := range texts {
		d := design(t, text)
		makes(t, text, d, values(), tested, after(t, d, changes))
	}
}

func TestAssignments(t *testing.T) {
	change(t, map[string]string{
		`comb{}`: ``, `comb{y=a;}`: `y=1`, `comb{y=b;}`: ``, `comb{z=d;}`: `z=9`, `comb{z=d; y=a; u=255;}`: `z=9 y=1 u=255`, `assign z=d+8;`: `z=1`,
		`comb{z=1; z=2;}`: `z=2`, `comb{z=1; z=2; z=z;}`: `z=2`, `comb{z=z;}`: ``, `comb{z=z+1; z=z+1;}`: `z=8`, `comb{z=z*z; z=z*z;}`: `z=0`, `comb{z=z-1; z=z*z;}`: `z=9`,
		`comb{z=d; u={z,z};}`: `z=9 u=0x99`, `comb{u={z,z}; z=d;}`: `z=9 u=0x66`, `comb{y=a; z={4{y}}; u={z,z};}`: `y=1 z=15 u=255`,
		`comb{y=d[c];}`: ``, `comb{y=d[c+1];}`: `y=1`, `comb{y=u[z];}`: `y=1`, `comb{z=3; y=u[z];}`: `y=1 z=3`, `comb{z=5; y=u[z];}`: `z=5`, `comb{y=d[7];}`: ``,
		`comb{x=w;}`: `x=0x8000000000000001`, `comb{x=~x;}`: `x=0xfffffffffffffffa`, `comb{x=x-6;}`: `x=0xffffffffffffffff`, `comb{x=w+w;}`: `x=2`,
	})
}

// TestParts: an assignment changes the bits that it names, and no others.
func TestParts(t *testing.T) {
	change(t, map[string]string{
		`comb{z[0]=1;}`: `z=7`, `comb{z[1]=0;}`: `z=4`, `comb{z[2]=0;}`: `z=2`, `comb{z[3]=1;}`: `z=14`, `comb{z[2:1]=0;}`: `z=0`, `comb{z[2:1]=1;}`: `z=2`, `comb{z[3:0]=15;}`: `z=15`, `comb{z[3:2]=2;}`: `z=10`, `comb{z[1:1]=0;}`: `z=4`, `comb{z[1:0]=c+1;}`: `z=7`,
		`comb{z[3:2]=z[1:0]; z[1:0]=z[3:2];}`: `z=10`, `comb{z[0]=1; z[1]=0; z[2]=0; z[3]=1;}`: `z=9`, `comb{z=0; z[2]=1;}`: `z=4`, `comb{z[2]=1; z=0;}`: `z=0`, `comb{z[2:0]=0; z[3:1]=7;}`: `z=14`,
		`comb{y[0]=a;}`: `y=1`, `comb{y[0:0]=a;}`: `y=1`, `comb{u[7:4]=u[3:0]; u[3:0]=u[7:4];}`: `u=0x88`, `comb{u[6]=0; u[0]=1;}`: `u=0x89`,
		`comb{x[63]=1;}`: `x=0x8000000000000005`, `comb{x[63:1]=w[62:0];}`: `x=3`, `comb{x[62:0]=63'd0;}`: `x=0`, `comb{x[62:0]=w[63:1];}`: `x=0x4000000000000000`, `comb{x[63:0]=~w;}`: `x=0x7ffffffffffffffe`, `comb{x[63:32]=~x[31:0];}`: `x=0xfffffffa00000005`, `comb{x[32:31]=3;}`: `x=0x180000005`,
	})
}

func TestChoices(t *testing.T) {
	change(t, map[string]string{
		`comb{if(a){z=1;}}`: `z=1`, `comb{if(b){z=1;}}`: ``, `comb{if(a){z=1;}else{z=2;}}`: `z=1`, `comb{if(b){z=1;}else{z=2;}}`: `z=2`, `comb{if(a){}else{z=2;}}`: ``, `comb{if(b){}else{z=2;}}`: `z=2`, `comb{if(0){z=1;}else{z=2;}}`: `z=2`, `comb{if(1){z=1;}else{z=2;}}`: `z=1`,
		`comb{if(b){z=1;}else if(c==2){z=2;}else{z=3;}}`: `z=2`, `comb{if(b){z=1;}else if(c==1){z=2;}else{z=3;}}`: `z=3`, `comb{if(a){z=1;}else if(c==2){z=2;}else{z=3;}}`: `z=1`, `comb{if(a){if(b){z=1;}else{z=2;}}else{z=3;}}`: `z=2`,
		`comb{if(a){z=1; y=a; u=z+4'd1==2?8'd7:8'd9;} x=64'd0;}`: `z=1 y=1 u=7 x=0`, `comb{if(d>8){z[3]=1;} if(d<9){z[0]=1;}}`: `z=14`,
		// What a choice hangs on is what is there when it is come to.
		`comb{y=1; if(y){z=1;}else{z=2;}}`: `y=1 z=1`, `comb{if(y){z=1;}else{z=2;} y=1;}`: `y=1 z=2`, `comb{if(!y){y=1; z=1;}else{z=2;}}`: `y=1 z=1`, `comb{if(!y){y=1;} if(y){z=1;}}`: `y=1 z=1`,
	})
}

func TestCases(t *testing.T) {
	change(t, map[string]string{
		`comb{case(c){0:{z=0;} 1:{z=1;} 2:{z=2;} else:{z=3;}}}`: `z=2`, `comb{case(c){2:{z=2;} 0:{z=0;} else:{z=3;}}}`: `z=2`, `comb{case(c+1){0:{z=0;} 1:{z=1;} 2:{z=2;} else:{z=3;}}}`: `z=3`, `comb{case(c){0:{z=0;} 1:{z=1;} else:{z=3;}}}`: `z=3`,
		`comb{case(c){0,1:{z=1;} 3,2:{z=2;} else:{z=3;}}}`: `z=2`, `comb{case(c){0,2,1:{z=1;} else:{z=3;}}}`: `z=1`, `comb{case(c){0,1,3:{z=1;} else:{z=3;}}}`: `z=3`, `comb{case(c){2'd2:{z=1;} else:{z=3;}}}`: `z=1`,
		// Of two arms with the same label the first one is done, and it alone.
		`comb{case(c){2:{z=1;} 2:{z=2; y=1;} else:{z=3;}}}`: `z=1`, `comb{case(c){0,2:{z=1;} 2,1:{y=1;} else:{u=3;}}}`: `z=1`,
		`comb{case(c){2:{} else:{z=3;}}}`: ``, `comb{case(c){2:{z=3;}}}`: `z=3`, `comb{case(c){1:{z=3;}}}`: ``, `comb{case(c){else:{z=3;}}}`: `z=3`, `comb{case(c){}}`: ``, `comb{case(c){1:{z=3;} else:{}}}`: ``,
		`comb{case(w){64'h8000000000000000:{z=0;} 1:{z=1;} 64'h8000000000000001:{z=2;} else:{z=3;}}}`: `z=2`, `comb{case(a){0:{z=0;} 1:{z=1;}}}`: `z=1`, `comb{case(b){0:{z=0;} 1:{z=1;}}}`: `z=0`, `comb{case(d==9){1:{z=1;} else:{z=0;}}}`: `z=1`,
		// A case is of what is there when it is come to.
		`comb{case(z){6:{z=0; z=z+1;} 0:{z=9;} 1:{z=10;} else:{z=11;}}}`: `z=1`, `comb{z=3; case(z){6:{u=0;} 3:{u=1;} else:{u=2;}}}`: `z=3 u=1`, `comb{case(z){6:{u=0;} 3:{u=1;} else:{u=2;}} z=3;}`: `z=3 u=0`,
		`comb{case(c){2:{case(d){9:{z=1;} else:{z=2;}} y=1;} else:{z=3;}}}`: `z=1 y=1`, `comb{case(c){1:{z=0;} else:{if(a){z=9; u=z+4'd1==10?8'd1:8'd2;}}}}`: `z=9 u=1`,
	})
}

func TestBlocks(t *testing.T) {
	change(t, map[string]string{
		`comb{{}}`: ``, `comb{{z=1;}}`: `z=1`, `comb{z=1; {z=z+1; {z=z+1;}} z=z+1;}`: `z=4`, `comb{{{{y=1;}}} {z={4{y}};}}`: `y=1 z=15`,
		`comb{for(i=0..3){z=z+1;}}`: `z=9`, `comb{for(i=0..4){z[i]=a;}}`: `z=15`, `comb{for(i=1..3){z[i]=z[i-1];}}`: `z=0`, `comb{for(i=2..2){z=0;}}`: ``, `comb{for(i=0..8){u[i]=w[63-i];}}`: `u=1`,
	})
}

// TestTicks: in a process that is clocked all expressions are of the values ahead of it.
func TestTicks(t *testing.T) {
	change(t, map[string]string{
		`on tick{}`: ``, `on tick{q<=q+1;}`: `q=11`, `on tick{q<=q+1; q<=q+2;}`: `q=12`, `on tick{q<=3; r<=q[1:0];}`: `q=3 r=2`, `on tick{r<=q[1:0]; q<=3;}`: `q=3 r=2`, `on tick{q<=s[3:0]; s<=zext(64,q);}`: `q=7 s=10`, `on tick{q<=d; r<=c;}`: `q=9 r=2`,
		`on tick{q[3]<=0; q[0]<=q[3];}`: `q=3`, `on tick{q[3:2]<=q[1:0]; q[1:0]<=q[3:2];}`: `q=10`, `on tick{q[1:0]<=3; q[3:2]<=q[1:0];}`: `q=11`, `on tick{q<=0; q[0]<=q[1];}`: `q=1`, `on tick{q[0]<=1; q<=q;}`: ``,
		`on tick{q<=0; if(q==10){r<=2;}else{r<=3;}}`: `q=0 r=2`, `on tick{if(a){q<=1; if(q==1){r<=3;}}}`: `q=1`, `on tick{if(b){q<=1;}else{q<=2; if(q==10){r<=3;}}}`: `q=2 r=3`, `on tick{if(a){q<=1;} else if(q==10){q<=2;}}`: `q=1`,
		`on tick{q<=0; case(q){0:{r<=0;} 10:{r<=2;} else:{r<=3;}}}`: `q=0 r=2`, `on tick{case(r){1:{r<=2; q<=r[0]?4'd8:4'd4;} 2:{q<=0;}}}`: `r=2 q=8`,
		`on tick{{q<=q+1;} {q<=q+1;}}`: `q=11`, `on tick{for(i=0..5){q<=q+1;}}`: `q=11`, `on tick{s<=s-8; r<=s[1:0];}`: `s=0xffffffffffffffff r=3`, `on tick{s<=0; r<=r+{1'd0,s[0]};}`: `s=0 r=2`, `on tick{q<=0; r[1]<=!q[0];}`: `q=0 r=3`, `on tick{q<=5; r[1]<=s[q[3:2]];}`: `q=5 r=3`,
	})
}

// TestWhichProcess: the one that is told is done, and no other one; what others read or write makes no difference.
func TestWhichProcess(t *testing.T) {
	d := laid(t, `comb{z=1;} on tick{q<=q+1;} comb{z=z+1; y=z[0];} on tick{q<=q-1;} comb{}`)
	for p, changes := range []string{`z=1`, `q=11`, `z=7 y=1`, `q=9`, ``} {
		makes(t, p, d, values(), p, after(t, d, changes))
	}
}

// TestOneAfterTheOther: what was made of values is values again.
func TestOneAfterTheOther(t *testing.T) {
	d := laid(t, `on tick{q<=q+d;} comb{z=q+1; u={z,q};}`)
	v := make([]uint64, len(d.Signals))
	v[3] = 9
	q := uint64(0)
	for range 40 {
		for p := range 2 {
			next, err := stmt.Run(d, v, p)
			if err != api.OK {
				t.Fatalf("error %d", err)
			}
			v = next
		}
		q = (q + 9) % 16
		if z := (q + 1) % 16; v[9] != q || v[6] != z || v[8] != z<<4+q {
			t.Fatalf("%d: q is %d, %x", v, q, z)
		}
	}
}
