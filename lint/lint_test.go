package lint_test

import (
	"slices"
	"testing"

	"filigree/api"
)

// TestExample holds the chapter's example: what has y stand ahead of what has w.
func TestExample(t *testing.T) {
	const ports = `module m(in a:1,in b:1,out y:1){wire w:1; `
	d := whole(t, ports+`assign y=a&w; assign w=b;}`)
	clean(t, "the example", d, []int{1, 0}, []int{1, 0})
	tells(t, "the example", "Drivers", d, []int{-1, -1, 0, 1})
	refused(t, "w = y beside", whole(t, ports+`assign y=a&w; assign w=b; assign w=y;}`), api.ErrTwo)
	refused(t, "w = y in its stead", whole(t, ports+`assign y=a&w; assign w=y;}`), api.ErrLoop)
}

// TestDrivers: of the bits behind the inputs', which no process drives.
func TestDrivers(t *testing.T) {
	for items, want := range map[string][]int{
		``: nil, `comb{}`: nil, `on tick{}`: nil,
		`wire w:1; assign w=a;`: {0}, `wire w:1;`: {-1}, `wire w:3; assign w=3'd1;`: {0, 0, 0}, `wire w:3; assign w[0]=a;`: {0, -1, -1}, `wire w:3; assign w[1]=a;`: {-1, 0, -1}, `wire w:3; assign w[2]=a;`: {-1, -1, 0}, `wire w:3; assign w[2:1]=c;`: {-1, 0, 0},
		`wire w:1; wire u:2; assign u=c; assign w=a;`: {1, 0, 0}, `wire w:2; comb{} assign w[1]=a; comb{} assign w[0]=b;`: {3, 1}, `wire w:4; assign w[3:2]=c; assign w[1]=a; on tick{} assign w[0]=a;`: {3, 1, 0, 0},
		// One process may write a bit as often as it likes, and whether it does so always is not asked.
		`wire w:1; comb{w=a; w=b;}`: {0}, `wire w:2; wire u:1; comb{w=c; w[0]=a; w[1:0]=c; u=b;}`: {0, 0, 0}, `wire w:2; comb{if(a){w[1]=a;}else{}}`: {-1, 0}, `wire w:1; comb{if(0){w=a;}}`: {0},
		`wire w:3; comb{case(c){0:{w[0]=a;} 1,2:{} else:{w[2]=b;}}}`: {0, -1, 0}, `wire w:2; comb{{{w[1]=a;}} for(i=0..1){w[i]=a;}}`: {0, 0}, `wire w:2; for l(i=0..2){assign w[1-i]=a;}`: {1, 0},
		// Registers are driven by processes that are clocked.
		`reg q:2=0;`: {-1, -1}, `reg q:2=0; on tick{q<=c;}`: {0, 0}, `reg q:3=0; comb{} on tick{q[2]<=a;} on tick{if(a){q[0]<=b;}}`: {2, -1, 1}, `reg q:1=0; wire w:1; on tick{q<=w;} assign w=q;`: {0, 1}, `reg q:1=1; on tick{q<=a; q<=b;}`: {0},
		// What hangs on itself has its driver, too.
		`wire w:1; wire u:1; assign w=u; assign u=w;`: {0, 1}, `wire w:1; comb{w=!w;}`: {0}, `wire w:2; wire u:1; wire v:1; assign u=w[1:1];`: {-1, -1, 0, -1},
	} {
		tells(t, items, "Drivers", design(t, items), slices.Concat(slices.Repeat([]int{-1}, 8), want))
	}
	tells(t, "outputs", "Drivers", whole(t, `module m(out y:2,in a:1,out z:1){assign z=a; assign y[1]=a;}`), []int{-1, 1, -1, 0})
	tells(t, "parts", "Drivers", whole(t, `module m(in a:1,out y:1){inst u:n(p=a,q=y);} module n(in p:1,out q:1){assign q=!p;}`), []int{-1, 2, 0, 1})
	tells(t, "nothing", "Drivers", api.Flat{}, nil)
	tells(t, "no signals", "Drivers", api.Flat{Procs: make([]api.Proc, 3)}, nil)
	tells(t, "wide ones", "Drivers", whole(t, `module m(out y:64){wire w:64; assign y[63:1]=w[62:0]; assign w=64'd5; assign y[0]=w[63:63];}`), slices.Concat([]int{2}, slices.Repeat([]int{0}, 63), slices.Repeat([]int{1}, 64)))
}

func TestDrivenTwice(t *testing.T) {
	for _, items := range []string{
		`wire w:1; assign w=a; assign w=b;`, `wire w:1; assign w=a; assign w=a;`, `wire w:1; assign w=a; comb{} on tick{} comb{w=a;}`, `wire w:4; assign w=d; assign w[0]=a;`, `wire w:4; assign w=d; assign w[3]=a;`, `wire w:4; assign w[2:1]=c; assign w[3:2]=c;`, `wire w:4; assign w[1:0]=c; assign w[2:1]=c; assign w[3]=a;`,
		// On which ways they write it makes no difference.
		`wire w:1; comb{if(a){w=b;}} comb{if(!a){w=b;}}`, `wire w:1; comb{if(0){w=b;}} assign w=a;`, `wire w:2; comb{case(c){1:{w[1]=a;}}} comb{case(c){2:{w=c;} else:{}}}`, `wire w:2; for l(i=0..2){assign w[0]=a;}`,
		`reg q:1=0; on tick{q<=a;} on tick{q<=b;}`, `reg q:3=0; on tick{q[1:0]<=c;} on tick{} on tick{if(a){q[2:1]<=c;}}`, `reg q:1=0; on tick{q<=q;} on tick{if(0){q<=q;}}`,
		// Whatever else is wrong is told behind it.
		`wire w:1; wire u:1; assign w=a; assign w=b;`, `wire u:1; wire w:1; comb{if(a){w=b;}} comb{w=w;}`, `wire w:1; wire u:1; assign u=u; comb{if(u){w=a;}} assign w=b;`,
	} {
		refused(t, items, design(t, items), api.ErrTwo)
	}
	refused(t, "an output", whole(t, `module m(in a:1,out y:2){assign y=2'd1; assign y[1]=a;}`), api.ErrTwo)
	refused(t, "a part's output", whole(t, `module m(in a:1,out y:1){inst u:n(p=a,q=y); inst v:n(p=a,q=y);} module n(in p:1,out q:1){assign q=!p;}`), api.ErrTwo)
}

func TestNotDriven(t *testing.T) {
	for _, items := range []string{
		`wire w:1;`, `wire w:4; assign w[3:1]=3'd0;`, `wire w:4; assign w[2:0]=3'd0;`, `wire w:4; assign w[3:2]=c; assign w[0]=a;`, `wire w:64; assign w[62:0]=63'd0;`, `wire w:64; assign w[63:1]=63'd0;`, `wire w:1; wire u:1; assign w=u;`, `wire w:1; wire u:1; assign u=a;`, `wire w:1; comb{}`, `wire w:1; reg q:1=0; on tick{q<=w;}`,
		// Whatever else is wrong is told behind it.
		`wire w:1; wire u:1; comb{if(a){w=a;}}`, `wire u:1; wire w:1; assign w=w;`, `wire w:2; comb{if(w[0:0]){w[0]=a;}}`,
	} {
		refused(t, items, design(t, items), api.ErrNone)
	}
	refused(t, "an output", whole(t, `module m(out y:1){}`), api.ErrNone)
	refused(t, "an output's bit", whole(t, `module m(in a:1,out y:2){assign y[0]=a;}`), api.ErrNone)
	refused(t, "an output behind", whole(t, `module m(in a:1,out y:1,in b:1,out z:1){assign y=a;}`), api.ErrNone)
	refused(t, "a part's output", whole(t, `module m(){inst u:n();} module n(out q:1){}`), api.ErrNone)
}

// TestNeedsNoDriver: inputs and registers do not.
func TestNeedsNoDriver(t *testing.T) {
	for _, items := range []string{``, `reg q:4=3;`, `reg q:4=3; on tick{q[2]<=a;}`, `reg q:1=0; reg r:1=0; on tick{if(a){r<=q;}}`} {
		d := design(t, items)
		clean(t, items, d, nil, make([]int, len(d.Procs)))
	}
}

func TestNotDrivenAlways(t *testing.T) {
	for _, items := range []string{
		`wire w:1; comb{if(a){w=b;}}`, `wire w:1; comb{if(a){}else{w=b;}}`, `wire w:1; comb{if(1){w=b;}}`, `wire w:1; comb{if(a){w=b;} if(!a){w=b;}}`, `wire w:1; comb{if(a){if(b){w=b;}}else{w=b;}}`, `wire w:1; comb{if(a){w=a;}else if(b){w=b;}}`,
		`wire w:1; comb{case(c){0:{w=a;} 1:{w=b;}}}`, `wire w:1; comb{case(a){0:{w=a;} 1:{w=b;}}}`, `wire w:1; comb{case(c){0:{w=a;} 1:{} else:{w=b;}}}`, `wire w:1; comb{case(c){1:{w=a;} else:{}}}`,
		// One bit of many, or one process of many, is enough.
		`wire w:4; comb{w[2:0]=3'd1; if(a){w[3]=b;}}`, `wire w:4; comb{if(a){w=d;}else{w[3:1]=3'd1;}}`, `wire w:4; comb{if(a){w[3:0]=d;} w[2:0]=3'd0;}`, `wire w:1; wire u:1; comb{w=a; if(a){u=b;}}`, `wire w:1; wire u:1; assign u=a; on tick{} comb{if(a){w=b;}}`, `wire w:1; wire u:1; comb{if(a){w=b;}} assign u=a;`,
		// Whatever hangs on itself is told behind it.
		`wire w:1; comb{if(w){w=b;}}`, `wire w:1; wire u:1; assign u=u; comb{if(a){w=b;}}`,
	} {
		refused(t, items, design(t, items), api.ErrLatch)
	}
	refused(t, "an output", whole(t, `module m(in a:1,out y:1){comb{if(a){y=1;}}}`), api.ErrLatch)
}

// TestDrivenAlways: whatever is written on each way; registers need not be.
func TestDrivenAlways(t *testing.T) {
	for _, items := range []string{
		`wire w:1; comb{if(a){w=b;}else{w=a;}}`, `wire w:1; comb{w=a; if(a){w=b;}}`, `wire w:1; comb{if(a){w=b;} w=a;}`, `wire w:1; comb{case(c){0:{w=a;} 1,2:{w=b;} else:{w=1;}}}`, `wire w:4; comb{if(a){w[0]=a; w[3:1]=3'd2;}else{w[2:0]=3'd1; w[3]=b;}}`, `wire w:1; comb{case(c){else:{{w=a;}}}}`, `wire w:4; comb{for(i=0..4){if(a){w[i]=a;}else{w[i]=b;}}}`,
		`reg q:1=0; on tick{if(a){q<=b;}}`, `reg q:4=0; on tick{case(c){1:{q[3]<=a;} 2:{q<=q;}}}`,
	} {
		d := design(t, items)
		if d.Procs[0].Clocked {
			clean(t, items, d, nil, []int{0})
		} else {
			clean(t, items, d, []int{0}, []int{0})
		}
	}
}

func TestRings(t *testing.T) {
	for _, items := range []string{
		`wire w:1; assign w=w;`, `wire w:1; assign w=!w;`, `wire w:1; assign w=w&0;`, `wire w:4; assign w=w;`, `wire w:64; assign w=w+1;`, `wire w:1; comb{if(w){w=a;}else{w=b;}}`, `wire w:2; comb{case(w){1:{w=c;} else:{w=0;}}}`,
		// What a process has written ahead it reads of itself, too, and what it writes behind; even where it can't come to.
		`wire w:2; comb{w[0]=a; w[1]=w[0:0];}`, `wire w:1; comb{w=a; w=w|b;}`, `wire w:1; wire u:1; comb{w=a; u=w;}`, `wire w:1; wire u:1; comb{u=w; w=a;}`, `wire w:1; comb{w=a; if(w){w=b;}}`, `wire w:1; comb{w=a; case(w){1:{w=b;}}}`, `wire w:1; wire u:1; comb{u=a; if(0){u=w;} w=b;}`, `wire w:2; comb{w=c; w[0]=w[1:1];}`,
		// A signal at an index is read whole, and so is what the index hangs on.
		`wire w:4; assign w[3:1]=3'd1; assign w[0]=w[2'd3];`, `wire w:4; assign w[3]=w[c]; assign w[2:0]=3'd0;`, `wire w:2; wire u:1; assign u=d[w]; assign w={u,u};`,
		`wire w:1; wire u:1; assign w=u; assign u=w;`, `wire w:1; wire u:1; assign w=u|a; comb{} on tick{} assign u=a?w:b;`, `wire w:1; wire u:1; wire v:1; assign w=u; assign u=v; assign v=w;`, `wire w:1; wire u:1; wire v:1; wire x:1; assign v=x; assign w=u; assign x=w; assign u=v;`, `wire w:8; for l(i=1..8){assign w[i]=w[i-1:i-1];} assign w[0]=w[7:7];`,
		// A ring of processes is one, even where no bit hangs on itself.
		`wire w:1; wire u:1; wire v:1; comb{w=a; u=v;} assign v=w;`, `wire w:2; wire u:1; comb{w[0]=a; w[1]=u;} assign u=w[0:0];`,
		// What stands ahead of a ring, or behind it, makes no difference.
		`wire w:1; wire u:1; wire v:1; assign w=a; assign u=w&v; assign v=u;`, `wire w:1; wire u:1; wire v:1; assign w=u; assign u=v; assign v=u;`, `wire w:1; wire u:1; reg q:1=0; on tick{q<=w;} assign w=q&u; assign u=w;`,
	} {
		refused(t, items, design(t, items), api.ErrLoop)
	}
	refused(t, "an output", whole(t, `module m(out y:1){assign y=!y;}`), api.ErrLoop)
	refused(t, "a part's output", whole(t, `module m(){wire w:1; inst u:n(p=w,q=w);} module n(in p:1,out q:1){assign q=!p;}`), api.ErrLoop)
	refused(t, "two parts", whole(t, `module m(){wire w:1; wire v:1; inst x:n(p=w,q=v); inst u:n(p=v,q=w);} module n(in p:1,out q:1){assign q=!p;}`), api.ErrLoop)
}
