package cycle_test

import (
	"math"
	"testing"

	"filigree/api"
	"filigree/cycle"
)

// TestExample holds the chapter's example.
func TestExample(t *testing.T) {
	d := whole(t, `module m(out y:2){reg q:2=0; on tick{q<=q+1;} assign y=q;}`)
	runs(t, "the example", d, make([][]uint64, 5), rows[uint64](0, 1, 2, 3, 0), make([][]bool, 5))
}

func TestReset(t *testing.T) {
	for text, want := range map[string][]uint64{
		`module m(){}`:           nil,
		`module m(in a:3){}`:     {0},
		`module m(){reg q:4=9;}`: {9},
		`module m(in a:64,out y:2){reg q:64=64'hffffffffffffffff; wire w:1; reg r:1=0; assign y=2'd3; assign w=1; reg s:3=5; on tick{q<=1; s<=s;}}`: {0, 0, math.MaxUint64, 0, 0, 5},
		`module m(out y:2){inst u:n(q=y);} module n(out q:2){reg r:2=2; assign q=r;}`:                                                               {0, 0, 2},
	} {
		begins(t, text, whole(t, text), want)
	}
}

func TestPut(t *testing.T) {
	d := whole(t, `module m(in a:1,out y:4,in b:4){reg q:2=1; wire w:4; assign w=b; assign y=w; on tick{q<={2{a}};}}`)
	puts(t, "two inputs", d, []uint64{0, 5, 7, 2, 9}, []uint64{1, 12}, []uint64{1, 5, 12, 2, 9})
	puts(t, "the greatest ones", d, []uint64{0, 0, 0, 0, 0}, []uint64{1, 15}, []uint64{1, 0, 15, 0, 0})
	puts(t, "as they were", d, []uint64{1, 15, 3, 3, 15}, []uint64{1, 3}, []uint64{1, 15, 3, 3, 15})
	puts(t, "zeros", d, []uint64{1, 15, 15, 3, 15}, []uint64{0, 0}, []uint64{0, 15, 0, 3, 15})
	d = whole(t, `module m(){reg q:2=1;}`)
	puts(t, "no inputs", d, []uint64{3}, nil, []uint64{3})
	puts(t, "an empty list", d, []uint64{3}, []uint64{}, []uint64{3})
	puts(t, "nothing", api.Flat{}, nil, nil, nil)
	d = whole(t, `module m(in a:64,in b:1){}`)
	puts(t, "64 bits", d, []uint64{5, 1}, []uint64{math.MaxUint64, 0}, []uint64{math.MaxUint64, 0})
}

func TestSettle(t *testing.T) {
	for _, c := range []struct {
		text    string
		v, want []uint64
	}{
		{`module m(in a:4,out y:4){assign y=a+1;}`, []uint64{15, 9}, []uint64{15, 0}},
		{`module m(in a:4,out y:4){wire w:4; assign y=w+1; assign w=a+1;}`, []uint64{3, 0, 0}, []uint64{3, 5, 4}},
		{`module m(in a:4,out y:4){wire w:4; assign w=a+1; assign y=w+1;}`, []uint64{3, 15, 15}, []uint64{3, 5, 4}},
		{`module m(in a:4,out y:4){wire u:4; wire w:4; assign y=u+1; assign u=w+1; assign w=a+1;}`, []uint64{0, 7, 7, 7}, []uint64{0, 3, 2, 1}},
		// Two processes drive bits of one wire.
		{`module m(in a:4,out y:4){assign y[1:0]=y[3:2]; assign y[3:2]=a[1:0];}`, []uint64{2, 0}, []uint64{2, 10}},
		{`module m(in a:1,out y:4){for l(i=0..3){assign y[i]=!y[i+1:i+1];} assign y[3]=a;}`, []uint64{1, 15}, []uint64{1, 10}},
		// What is written on one way and on another one.
		{`module m(in a:1,out y:2){comb{if(a){y=1;}else{y=2;}}}`, []uint64{1, 2}, []uint64{1, 1}},
		{`module m(in a:2,out y:2){comb{y=0; case(a){1:{y=3;} 2:{y=1;}}}}`, []uint64{2, 3}, []uint64{2, 1}},
		// Registers stay, and are read.
		{`module m(out y:2){reg q:2=1; on tick{q<=q+1;} assign y=q+1;}`, []uint64{0, 2}, []uint64{3, 2}},
		{`module m(){reg q:2=1; on tick{q<=q+1;}}`, []uint64{2}, []uint64{2}},
		{`module m(out y:2){inst u:n(p=1,q=y);} module n(in p:2,out q:2){assign q=p+1;}`, []uint64{0, 0, 0}, []uint64{2, 1, 2}},
		{`module m(in a:64,out y:64){assign y=~a;}`, []uint64{1, 0}, []uint64{1, math.MaxUint64 - 1}},
	} {
		makes(t, c.text, cycle.Settle, whole(t, c.text), c.v, c.want)
	}
	makes(t, "nothing", cycle.Settle, api.Flat{}, nil, nil)
}

func TestTick(t *testing.T) {
	for _, c := range []struct {
		text    string
		v, want []uint64
	}{
		{`module m(){reg q:2=0; on tick{q<=q+1;}}`, []uint64{3}, []uint64{0}},
		{`module m(in a:4){reg q:4=0; on tick{q<=a;}}`, []uint64{9, 1}, []uint64{9, 9}},
		// What no process writes, or not on the way that is gone, stays.
		{`module m(in a:1){reg q:4=0; on tick{if(a){q<=5;}}}`, []uint64{0, 7}, []uint64{0, 7}},
		{`module m(in a:1){reg q:4=0; on tick{if(a){q<=5;}}}`, []uint64{1, 7}, []uint64{1, 5}},
		{`module m(){reg q:4=0; on tick{q[2:1]<=0;}}`, []uint64{15}, []uint64{9}},
		{`module m(){reg q:4=0; reg r:4=0; on tick{q<=r;}}`, []uint64{3, 4}, []uint64{4, 4}},
		// All begin with the same values, in one process, and from process to process.
		{`module m(){reg q:4=0; reg r:4=0; on tick{q<=r; r<=q;}}`, []uint64{3, 4}, []uint64{4, 3}},
		{`module m(){reg q:4=0; reg r:4=0; on tick{q<=r;} on tick{r<=q;}}`, []uint64{3, 4}, []uint64{4, 3}},
		{`module m(){reg q:4=0; on tick{q[1:0]<=q[3:2];} on tick{q[3:2]<=q[1:0];}}`, []uint64{0b0110}, []uint64{0b1001}},
		{`module m(){reg q:3=0; on tick{q[0]<=q[2:2];} on tick{q[1]<=q[0:0];} on tick{q[2]<=q[1:1];}}`, []uint64{0b011}, []uint64{0b110}},
		{`module m(){reg q:4=0; on tick{q<=q+1; q[0]<=q[0:0]; q[3]<=1;}}`, []uint64{3}, []uint64{13}},
		// Wires stay as they are, whether they are at rest or not.
		{`module m(in a:4,out y:4){wire w:4; reg q:4=0; assign w=a; assign y=q; on tick{q<=w;}}`, []uint64{1, 2, 3, 4}, []uint64{1, 2, 3, 3}},
		{`module m(in a:4,out y:4){assign y=a;}`, []uint64{1, 2}, []uint64{1, 2}},
		{`module m(){reg q:64=0; on tick{q<=q-1;}}`, []uint64{0}, []uint64{math.MaxUint64}},
		{`module m(){reg q:64=0; on tick{q[63]<=q[0:0];} on tick{q[0]<=q[63:63];}}`, []uint64{1}, []uint64{1 << 63}},
	} {
		makes(t, c.text, cycle.Tick, whole(t, c.text), c.v, c.want)
	}
	makes(t, "nothing", cycle.Tick, api.Flat{}, nil, nil)
}

func TestOuts(t *testing.T) {
	d := whole(t, `module m(out y:4,in a:4,out z:64){check c:a==y; assign y=a; wire w:1; assign w=1; assign z=0; check k:w; check n:0; reg q:4=0; check r:q[y]; check o:1; check l:a<q;}`)
	looks(t, "at rest", d, []uint64{5, 5, 0, 1, 0}, []uint64{5, 0}, []bool{true, true, false, false, true, false})
	looks(t, "not at rest", d, []uint64{3, 5, math.MaxUint64, 0, 8}, []uint64{3, math.MaxUint64}, []bool{false, false, false, true, true, true})
	looks(t, "a bit that there is not", d, []uint64{15, 15, 7, 1, 15}, []uint64{15, 7}, []bool{true, true, false, false, true, false})
	looks(t, "no outputs", whole(t, `module m(in a:1){check c:a; wire w:1; assign w=a; reg q:1=0;}`), []uint64{1, 0, 0}, nil, []bool{true})
	looks(t, "no checks", whole(t, `module m(in a:1,out y:1){assign y=a;}`), []uint64{1, 0}, []uint64{0}, nil)
	looks(t, "nothing", api.Flat{}, nil, nil, nil)
}

func TestRun(t *testing.T) {
	const count = `module m(in up:1,in by:3,out y:4){reg q:4=2; on tick{if(up){q<=q+zext(4,by);}} assign y=q; check small:q<9; check c:up;}`
	d := whole(t, count)
	runs(t, "outputs and checks", d, [][]uint64{{1, 3}, {0, 7}, {1, 7}, {1, 7}, {1, 0}, {0, 0}}, rows[uint64](2, 5, 5, 12, 3, 3), [][]bool{{true, true}, {true, false}, {true, true}, {false, true}, {true, true}, {true, false}})
	runs(t, "no cycles", d, nil, nil, nil)
	runs(t, "an empty list of cycles", d, [][]uint64{}, nil, nil)
	// Inputs are seen at once, registers in the next cycle.
	d = whole(t, `module m(in a:2,out y:2,out z:2){wire w:2; reg q:2=1; assign y=w; assign w=a; on tick{q<=w;} assign z=q;}`)
	runs(t, "inputs and registers", d, rows[uint64](3, 0, 2), [][]uint64{{3, 1}, {0, 3}, {2, 0}}, make([][]bool, 3))
	runs(t, "nothing", api.Flat{}, make([][]uint64, 2), make([][]uint64, 2), make([][]bool, 2))
	d = whole(t, `module m(out y:3){reg q:3=1; on tick{q[0]<=q[2:2];} on tick{q[1]<=q[0:0];} on tick{q[2]<=q[1:1];} assign y=q; check one:q!=0;}`)
	runs(t, "round", d, make([][]uint64, 5), rows[uint64](1, 2, 4, 1, 2), rows(true, true, true, true, true))
	d = whole(t, `module m(in a:1,out y:2){inst u:n(p=a,q=y);} module n(in p:1,out q:2){reg r:2=0; on tick{r<={r[0:0],p}; } assign q=r;}`)
	runs(t, "a part", d, rows[uint64](1, 0, 1, 1, 0), rows[uint64](0, 1, 2, 1, 3), make([][]bool, 5))
}

// TestRunIsStepByStep: what Run tells is what the other calls do, one behind the other.
func TestRunIsStepByStep(t *testing.T) {
	d := whole(t, `module m(in a:4,out y:4){reg q:4=7; wire w:4; assign w=q^a; assign y=w+1; on tick{if(w[0]){q<=y;}else{q<=q+3;}} check k:w<y;}`)
	ins := rows[uint64](1, 9, 15, 15, 0, 4, 3, 8)
	var outs [][]uint64
	var checks [][]bool
	v, _ := cycle.Reset(d)
	for _, in := range ins {
		v, _ = cycle.Put(d, v, in)
		v, _ = cycle.Settle(d, v)
		row, holds, _ := cycle.Outs(d, v)
		outs, checks = append(outs, row), append(checks, holds)
		v, _ = cycle.Tick(d, v)
	}
	runs(t, "step by step", d, ins, outs, checks)
	runs(t, "by hand", d, ins[:4], rows[uint64](7, 4, 12, 4), rows(true, true, true, true))
}
