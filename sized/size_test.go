package sized_test

import (
	"reflect"
	"testing"

	"filigree/api"
	"filigree/sized"
)

// sizesAll wants how wide all is in a design.
func sizesAll(t *testing.T, items, shown string) {
	t.Helper()
	d := laid(t, items)
	got, err := sized.Size(d)
	if err != api.OK || show(got) != shown {
		t.Errorf("%s:\n got %s, error %d\nwant %s", items, show(got), err, shown)
	}
	if !reflect.DeepEqual(got.Signals, d.Signals) {
		t.Errorf("%s: signals %v", items, got.Signals)
	}
}

// failsAll wants an error, and nothing else.
func failsAll(t *testing.T, what string, d api.Flat, fault api.Errno) {
	t.Helper()
	got, err := sized.Size(d)
	if err != fault || !reflect.DeepEqual(got, api.Flat{}) {
		t.Errorf("%s: %s, error %d, want error %d", brief(what), brief(show(got)), err, fault)
	}
}

func refusesAll(t *testing.T, fault api.Errno, texts ...string) {
	t.Helper()
	for _, items := range texts {
		failsAll(t, items, laid(t, items), fault)
	}
}

func TestNothing(t *testing.T) {
	for _, d := range []api.Flat{{}, {Signals: []api.Signal{}, Procs: []api.Proc{}, Checks: []api.Check{}}, {Procs: []api.Proc{{}, {Clocked: true}}}} {
		got, err := sized.Size(d)
		if err != api.OK || !sized.Same(got, d) || sized.Check(d) != api.OK {
			t.Errorf("%v: %v, error %d", d, got, err)
		}
	}
	sizesAll(t, ``, ``)
}

func TestAssignments(t *testing.T) {
	sizesAll(t, `assign y=a+1;`, `{y[7:0] = add:8(a[7:0]:8, 1:8)}`)
	sizesAll(t, `assign y[5:3]=c; assign u[4]=1;`, `{y[5:3] = c[2:0]:3} {u[4:4] = 1:1}`)
	sizesAll(t, `comb{y=255; u=y; y[7:1]=127;}`, `{y[7:0] = 255:8; u[7:0] = y[7:0]:8; y[7:1] = 127:7}`)
	sizesAll(t, `on tick{q<=q+1; q[3]<=k; q[2:0]<=a>>1==2?c:4;}`, `tick{q[3:0] = add:4(q[3:0]:4, 1:4); q[3:3] = k[0:0]:1; q[2:0] = cond:3(eq:1(shr:8(a[7:0]:8, 1:32), 2:8), c[2:0]:3, 4:3)}`)
	refusesAll(t, api.ErrSize, `assign y=c;`, `assign y[2:0]=a;`, `assign y[3]=c;`, `assign y[7:1]=a;`, `on tick{q<=c;}`, `on tick{q[3:3]<=q;}`, `comb{y=a; y={a,k};}`)
	refusesAll(t, api.ErrFit, `assign y=256;`, `assign y[3]=2;`, `assign y[2:0]=8;`, `on tick{q<=16;}`, `assign y=a+256;`)
	refusesAll(t, api.ErrBit, `assign y=a?a:c;`, `on tick{q<=q; q<=c?q:17;}`)
}

func TestIfs(t *testing.T) {
	sizesAll(t, `comb{if(k){y=1;}else{y=2;}}`, `{if k[0:0]:1 {{y[7:0] = 1:8}; {y[7:0] = 2:8}}}`)
	sizesAll(t, `comb{if(1){} if(a[c]){y=3;} if(!(a<5)){}else if(k||a==b){u=y;}}`,
		`{if 1:1 {{}; {}}; if a:1(c[2:0]:3) {{y[7:0] = 3:8}; {}}; if no:1(lt:1(a[7:0]:8, 5:8)) {{}; {if one:1(k[0:0]:1, eq:1(a[7:0]:8, b[7:0]:8)) {{u[7:0] = y[7:0]:8}; {}}}}}`)
	refusesAll(t, api.ErrBit, `comb{if(a){}}`, `on tick{if(c){}}`, `comb{if(a+256){y=c;}}`, `comb{if(2'd1){}}`, `comb{if(k){if(k){}else{if(a){}}}}`)
	refusesAll(t, api.ErrFit, `comb{if(2){}}`, `comb{if(a==256){y=c;}else{y=c;}}`, `comb{if(k){y=256;}else{y=c;}}`, `comb{if(k){}else{y=256; y=c;}}`, `comb{if(k){y=256;}else if(a){}}`)
	refusesAll(t, api.ErrSize, `comb{if(k){y=c;}else{y=256;}}`, `comb{if(k){y=c; y=256;}}`, `comb{if(k){}else if(k){y=c;}}`)
}

func TestCases(t *testing.T) {
	sizesAll(t, `comb{case(a){1,8'd2:{y=1;} 255:{} else:{y=2;}}}`, `{case a[7:0]:8 {1:8, 2:8: {y[7:0] = 1:8}; 255:8: {}; : {y[7:0] = 2:8}}}`)
	sizesAll(t, `comb{case(5){5,4294967295,32'd7:{}}}`, `{case 5:32 {5:32, 4294967295:32, 7:32: {}; : {}}}`)
	sizesAll(t, `comb{case(1+c){7:{}} case(k&&a[1]){0,1:{y=3;}} case(w){else:{}}}`, `{case add:3(1:3, c[2:0]:3) {7:3: {}; : {}}; case both:1(k[0:0]:1, a:1(1:32)) {0:1, 1:1: {y[7:0] = 3:8}; : {}}; case w[63:0]:64 {: {}}}`)
	sizesAll(t, `on tick{case(c){1:{case(q){2:{q<=3;}}}}}`, `tick{case c[2:0]:3 {1:3: {case q[3:0]:4 {2:4: {q[3:0] = 3:4}; : {}}}; : {}}}`)
	refusesAll(t, api.ErrFit, `comb{case(c){8:{}}}`, `comb{case(c){7,8:{y=c;}}}`, `comb{case(5){4294967296:{}}}`, `comb{case(4294967296){}}`, `comb{case(a+256){3'd1:{y=c;}}}`, `comb{case(c){1:{y=256;} 3'd2,8:{} else:{y=c;}}}`, `comb{case(c){1,8:{y=c;}}}`, `comb{case(c){1:{} else:{y=256; y=c;}}}`, `comb{case(c){1:{y=256;} 4'd1:{}}}`)
	refusesAll(t, api.ErrSize, `comb{case(c){4'd1:{y=256;}}}`, `comb{case(a){1:{} 2,9'd3:{}}}`, `comb{case(a+c){300:{}}}`, `comb{case(c){1:{y=c;} 8:{}}}`, `comb{case(c){4'd1,8:{}}}`, `comb{case(c){1:{} else:{y=c;}} y=256;}`, `comb{case(5){31'd1:{}}}`, `comb{case({w,w}){1:{}}}`)
	refusesAll(t, api.ErrBit, `comb{case(!a){2:{}}}`, `comb{case(c){1:{if(a){}} 8:{}}}`, `comb{case(c){1:{} else:{if(a){}}}}`)
}

func TestBlocks(t *testing.T) {
	sizesAll(t, `comb{{}{y=1;{u=2;}}{{}}}`, `{{}; {y[7:0] = 1:8; {u[7:0] = 2:8}}; {{}}}`)
	refusesAll(t, api.ErrSize, `comb{{}{y=1;{u=c;}}{y=256;}}`, `comb{{{{y=c;}}}}`)
	refusesAll(t, api.ErrFit, `comb{{y=1;{u=256;}}{y=c;}}`, `comb{{y=256;} y=c;}`)
}

// TestRoles: which signals a process drives hangs on whether it is Clocked.
func TestRoles(t *testing.T) {
	for kind := api.InK; kind <= api.RegK; kind++ {
		for _, clocked := range []bool{false, true} {
			one := api.E{Op: api.NumE, V: 1}
			set := api.T{Op: api.AssignT, E: []api.E{one}}
			block := api.T{Op: api.BlockT, L: []api.T{set}}
			none := api.T{Op: api.BlockT}
			for k, s := range []api.T{set, block,
				{Op: api.IfT, E: []api.E{one}, L: []api.T{block, none}}, {Op: api.IfT, E: []api.E{one}, L: []api.T{none, block}},
				{Op: api.CaseT, E: []api.E{one}, L: []api.T{{Op: api.ArmT, L: []api.T{set}}}},
				{Op: api.CaseT, E: []api.E{one}, L: []api.T{{Op: api.ArmT, E: []api.E{one}, L: []api.T{set}}, {Op: api.ArmT}}}} {
				d := api.Flat{Signals: []api.Signal{{Name: "s", W: 1, Kind: kind}}, Procs: []api.Proc{{Clocked: clocked, L: []api.T{s}}}}
				may := clocked && kind == api.RegK || !clocked && (kind == api.OutK || kind == api.WireK)
				if _, err := sized.Size(d); may != (err == api.OK) || !may && err != api.ErrRole {
					t.Errorf("statement %d, kind %d, clocked %t: error %d", k, kind, clocked, err)
				}
			}
		}
	}
}

// assigned is a process of one statement, which assigns a signal of 8 bits something.
func assigned(signal int, e api.E) api.Proc {
	return api.Proc{L: []api.T{{Op: api.AssignT, Sig: signal, Hi: 7, E: []api.E{e}}}}
}

// TestRoleComesInOrder: behind what stands ahead of an assignment, ahead of its value, and of what stands behind it.
func TestRoleComesInOrder(t *testing.T) {
	d := laid(t, `comb{u=a; if(k){u=256;}}`)
	a, y, u := 0, 6, 8
	sig := func(signal, hi int) api.E { return api.E{Op: api.SigE, Sig: signal, Hi: hi} }
	good, wide, great := sig(a, 7), sig(a, 6), api.E{Op: api.NumE, V: 256}
	for _, one := range []struct {
		procs []api.Proc
		fault api.Errno
	}{
		{[]api.Proc{assigned(a, good)}, api.ErrRole}, {[]api.Proc{assigned(a, wide)}, api.ErrRole}, {[]api.Proc{assigned(a, great)}, api.ErrRole},
		{[]api.Proc{assigned(y, wide), assigned(a, good)}, api.ErrSize}, {[]api.Proc{assigned(y, great), assigned(a, good)}, api.ErrFit},
		{[]api.Proc{assigned(y, good), assigned(a, good), assigned(u, wide)}, api.ErrRole}, {[]api.Proc{assigned(y, good), assigned(u, wide)}, api.ErrSize},
		{[]api.Proc{d.Procs[0], assigned(a, good)}, api.ErrFit}, {[]api.Proc{assigned(a, good), d.Procs[0]}, api.ErrRole},
		{[]api.Proc{{Clocked: true, L: assigned(y, wide).L}}, api.ErrRole},
	} {
		failsAll(t, "roles", api.Flat{Signals: d.Signals, Procs: one.procs}, one.fault)
	}
}

func TestChecks(t *testing.T) {
	sizesAll(t, `check p:k; check r:a==1; check s:1;`, `p: k[0:0]:1 r: eq:1(a[7:0]:8, 1:8) s: 1:1`)
	refusesAll(t, api.ErrBit, `check p:a;`, `check p:k; check r:a+256;`, `check p:c; check r:2;`)
	refusesAll(t, api.ErrFit, `check p:2;`, `check p:a==256; check r:a;`)
	// Processes come first, whatever stands first in a text.
	refusesAll(t, api.ErrSize, `check p:a; assign y=c;`)
	refusesAll(t, api.ErrFit, `check p:a; assign y=256; assign y=c;`)
	refusesAll(t, api.ErrBit, `check p:a; assign y=b;`)
	d := laid(t, `check p:k;`)
	d.Checks[0].Name = ""
	if got, err := sized.Size(d); err != api.OK || len(got.Checks) != 1 || got.Checks[0].Name != "" {
		t.Errorf("a check without a name: %v, error %d", got, err)
	}
}

// TestInits: those of registers fit, whatever is wrong in processes.
func TestInits(t *testing.T) {
	for w := 1; w <= 64; w++ {
		d := api.Flat{Signals: []api.Signal{{Name: "q", W: w, Kind: api.RegK, Init: 1<<(w-1) | 1}}}
		if got, err := sized.Size(d); err != api.OK || got.Signals[0] != d.Signals[0] {
			t.Errorf("%v: %v, error %d", d, got, err)
		}
		d.Signals[0].Init = 1 << w
		if w < 64 {
			failsAll(t, "an Init", d, api.ErrFit)
			if _, err := sized.Expr(d, api.E{Op: api.NumE}, 1); err != api.OK {
				t.Errorf("Expr asks an Init of %d bits: error %d", w, err)
			}
		}
	}
	for fault, items := range map[api.Errno]string{api.ErrSize: `assign y=c;`, api.ErrBit: `check p:a;`} {
		d := laid(t, items)
		failsAll(t, items, d, fault)
		d.Signals[9].Init = 16
		failsAll(t, items, d, api.ErrFit)
		d.Signals[9].Init = 15
		failsAll(t, items, d, fault)
		d.Signals[0].Init = 1
		d.Signals[9].Init = 16
		failsAll(t, items, d, api.ErrArg)
	}
	d := laid(t, ``)
	d.Procs = []api.Proc{assigned(0, api.E{Op: api.NumE})}
	failsAll(t, "a role", d, api.ErrRole)
	d.Signals[9].Init = 1 << 63
	failsAll(t, "an Init, and a role", d, api.ErrFit)
}
