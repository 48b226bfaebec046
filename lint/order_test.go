package lint_test

import (
	"testing"

	"filigree/api"
)

// chains are wires of one bit that are there in the tests of orders.
const chains = `wire p:1; wire q:1; wire r:1; wire s:1; wire u:1; reg x:1=0; reg y:1=1; `

// TestOrder: orders and levels of clean designs.
func TestOrder(t *testing.T) {
	for items, want := range map[string]struct{ order, levels []int }{
		`assign p=a; assign q=a; assign r=a; assign s=a; assign u=a;`: {[]int{0, 1, 2, 3, 4}, []int{0, 0, 0, 0, 0}},
		`assign p=a; assign q=p; assign r=q; assign s=r; assign u=s;`: {[]int{0, 1, 2, 3, 4}, []int{0, 1, 2, 3, 4}},
		`assign p=q; assign q=r; assign r=s; assign s=u; assign u=a;`: {[]int{4, 3, 2, 1, 0}, []int{4, 3, 2, 1, 0}},
		// The least one that can come does, as soon as it can: neither what it hangs on is sought out, nor all that can come at a time done.
		`assign p=q; assign q=a; assign r=b; assign s=b; assign u=b;`:             {[]int{1, 0, 2, 3, 4}, []int{1, 0, 0, 0, 0}},
		`assign p=u; assign q=a; assign r=b; assign s=b; assign u=b;`:             {[]int{1, 2, 3, 4, 0}, []int{1, 0, 0, 0, 0}},
		`assign p=s; assign q=a; assign r=q; assign s=b; assign u=p;`:             {[]int{1, 2, 3, 0, 4}, []int{1, 0, 1, 0, 2}},
		`assign p=r&q; assign q=s; assign r=u; assign s=a; assign u=b;`:           {[]int{3, 1, 4, 2, 0}, []int{2, 1, 1, 0, 0}},
		`assign p=s|u; assign q=p; assign r=a; assign s=r; assign u=r;`:           {[]int{2, 3, 4, 0, 1}, []int{2, 3, 0, 1, 1}},
		`assign p=a; assign q=u; assign r=p; assign s=q; assign u=r;`:             {[]int{0, 2, 4, 1, 3}, []int{0, 3, 1, 4, 2}},
		`assign p=q|r|s|u; assign q=r|s|u; assign r=s|u; assign s=u; assign u=a;`: {[]int{4, 3, 2, 1, 0}, []int{4, 3, 2, 1, 0}},
		// A level is that of the longest way.
		`assign p=a; assign q=p; assign r=p&q; assign s=p; assign u=s&r;`:   {[]int{0, 1, 2, 3, 4}, []int{0, 1, 2, 1, 3}},
		`assign p=a; assign q=p; assign r=q&p; assign s=r&p; assign u=p&p;`: {[]int{0, 1, 2, 3, 4}, []int{0, 1, 2, 3, 1}},
		// One process may drive, and read, several.
		`comb{p=u; s=u;} comb{q=p; r=s;} assign u=a;`: {[]int{2, 0, 1}, []int{1, 2, 0}},
		`comb{p=r; q=r; s=u;} comb{r=a; u=b;}`:        {[]int{1, 0}, []int{1, 0}},
		`comb{p=a; q=b; r=a; s=b; u=a;}`:              {[]int{0}, []int{0}},
		`comb{if(u){p=a;}else{p=b;}} assign q=a; comb{case(q){1:{r=p;} else:{r=a;}}} assign s=1; assign u=s?s:s;`: {[]int{1, 3, 4, 0, 2}, []int{2, 0, 3, 0, 1}},
		`comb{p=0; if(0){p=u;}} assign q=d[{p,p}]; assign r=q*0; assign s=a; assign u=s;`:                         {[]int{3, 4, 0, 1, 2}, []int{2, 3, 4, 0, 1}},
		// A process without statements is one of wires, too, and hangs on none.
		`comb{} assign p=q; comb{{}} assign q=a; comb{r=1; s=1; u=1;} comb{if(u){}}`: {[]int{0, 2, 3, 1, 4, 5}, []int{0, 1, 0, 0, 0, 1}},
		// Those that are clocked are not among those of wires, and none hangs on them.
		`on tick{x<=p;} assign p=q; assign q=r; on tick{y<=y;} assign r=x&y; on tick{} comb{s=y; u=x;}`:              {[]int{4, 2, 1, 6}, []int{3, 2, 1, 0, 0, 0, 0}},
		`on tick{if(u){x<=p;}} on tick{y<=x;} assign p=y; assign q=y; assign r=y; assign s=y; on tick{} assign u=s;`: {[]int{2, 3, 4, 5, 7}, []int{2, 0, 0, 0, 0, 0, 0, 1}},
		`assign p=x; assign q=x; assign r=y; assign s=y; assign u=x; on tick{x<=!x; y<=x;}`:                          {[]int{0, 1, 2, 3, 4}, []int{0, 0, 0, 0, 0, 0}},
		`assign p=x; on tick{x<=p;} assign q=p; assign r=p; assign s=p; assign u=p; on tick{y<=q;}`:                  {[]int{0, 2, 3, 4, 5}, []int{0, 1, 1, 1, 1, 1, 2}},
	} {
		clean(t, items, design(t, chains+items), want.order, want.levels)
	}
}

// TestOrderOfBits: who hangs on whom is asked bit by bit.
func TestOrderOfBits(t *testing.T) {
	for items, want := range map[string]struct{ order, levels []int }{
		`wire w:4; assign w[0]=w[1:1]; assign w[1]=w[2:2]; assign w[2]=w[3:3]; assign w[3]=a;`:                   {[]int{3, 2, 1, 0}, []int{3, 2, 1, 0}},
		`wire w:4; assign w[3:2]=w[1:0]; assign w[1]=a; assign w[0]=b;`:                                          {[]int{1, 2, 0}, []int{1, 0, 0}},
		`wire w:4; assign w[3:2]=c; wire u:4; assign u[3:2]=w[1:0]; assign w[1:0]=u[1:0]; assign u[1:0]=w[3:2];`: {[]int{0, 3, 2, 1}, []int{0, 3, 2, 1}},
		`wire w:3; wire u:1; assign u=w[1:1]; assign w[0]=a; assign w[2]=u; assign w[1]=b;`:                      {[]int{1, 3, 0, 2}, []int{1, 0, 2, 0}},
		// A signal at an index is read whole.
		`wire w:2; wire u:1; assign u=w[0]; assign w[0]=a; assign w[1]=b;`:      {[]int{1, 2, 0}, []int{1, 0, 0}},
		`wire w:2; wire u:1; assign u=d[w]; assign w[0]=a; assign w[1]=w[0:0];`: {[]int{1, 2, 0}, []int{2, 0, 1}},
		`wire w:64; for l(i=0..63){assign w[i]=w[i+1:i+1];} assign w[63]=a;`:    {down(63), down(63)},
	} {
		clean(t, items, design(t, items), want.order, want.levels)
	}
}

// down is the numbers from one on down to 0.
func down(from int) []int {
	var l []int
	for n := from; n >= 0; n-- {
		l = append(l, n)
	}
	return l
}

// TestParts: instances' ports are wires, joined by processes.
func TestParts(t *testing.T) {
	const part = ` module n(in p:1,out q:1){assign q=!p;}`
	clean(t, "one behind the other", whole(t, `module m(in a:1,out y:1){wire w:1; inst u:n(p=w,q=y); inst v:n(p=a,q=w);}`+part), []int{3, 4, 5, 0, 1, 2}, []int{3, 4, 5, 0, 1, 2})
	clean(t, "side by side", whole(t, `module m(in a:1,out y:1,out z:1){inst u:n(p=a,q=y); inst v:n(p=a,q=z);}`+part), []int{0, 1, 2, 3, 4, 5}, []int{0, 1, 2, 0, 1, 2})
	clean(t, "not bound", whole(t, `module m(in a:1){inst u:n(p=a);}`+part), []int{0, 1}, []int{0, 1})
	clean(t, "round by a register", whole(t, `module m(){wire w:1; inst u:n(p=w,q=w);} module n(in p:1,out q:1){reg r:1=0; on tick{r<=p;} assign q=r;}`), []int{2, 3, 0}, []int{2, 3, 0, 1})
}

// TestOutputs: they are read as wires are.
func TestOutputs(t *testing.T) {
	clean(t, "outputs", whole(t, `module m(out y:1,in a:1,out z:1){assign y=z; assign z=a;}`), []int{1, 0}, []int{1, 0})
}

func TestNothing(t *testing.T) {
	clean(t, "nothing", api.Flat{}, nil, nil)
	clean(t, "empty lists", api.Flat{Signals: []api.Signal{}, Procs: []api.Proc{}, Checks: []api.Check{}}, nil, nil)
	clean(t, "inputs alone", design(t, ``), nil, nil)
	clean(t, "no statements", api.Flat{Procs: []api.Proc{{}, {Clocked: true}, {L: []api.T{}}}}, []int{0, 2}, []int{0, 0, 0})
}

// TestChecksMakeNoDifference: a design's checks neither drive nor hang on anything that counts.
func TestChecksMakeNoDifference(t *testing.T) {
	const items = `wire w:1; wire u:1; check v:w==u; assign w=u; check k:1; assign u=a;`
	clean(t, items, design(t, items), []int{1, 0}, []int{1, 0})
	refused(t, "a check reads it", design(t, `wire w:1; check v:w;`), api.ErrNone)
}
