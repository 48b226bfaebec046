package cycle_test

import (
	"math"
	"testing"

	"filigree/api"
	"filigree/cycle"
)

// TestNotClean: of a design that is not clean all calls tell the error of lint, whatever else is wrong.
func TestNotClean(t *testing.T) {
	for items, want := range map[string]api.Errno{
		`wire w:2; assign w=a; assign w=a;`:               api.ErrTwo,
		`wire w:2; assign w=a; assign w[1]=0;`:            api.ErrTwo,
		`reg q:1=0; on tick{q<=1;} on tick{if(q){q<=0;}}`: api.ErrTwo,
		`wire w:2;`:                                                    api.ErrNone,
		`wire w:2; assign w[0]=1;`:                                     api.ErrNone,
		`wire w:2; comb{if(a==0){w=1;}}`:                               api.ErrLatch,
		`wire w:2; comb{case(a){0,1,2,3:{w=1;}}}`:                      api.ErrLatch,
		`wire w:2; assign w=w;`:                                        api.ErrLoop,
		`wire w:2; wire u:2; assign w=~u; assign u=~w;`:                api.ErrLoop,
		`wire w:1; wire u:2; assign w=u[w];`:                           api.ErrNone,
		`wire w:2; assign w=w; assign w=a;`:                            api.ErrTwo,
		`wire w:2; wire u:2; comb{if(a==0){w=u;}} assign u=w;`:         api.ErrLatch,
		`wire w:2; wire u:1; wire x:1; comb{if(a==0){w=1;}}`:           api.ErrNone,
		`wire w:2; reg q:1=0; on tick{q<=0;} on tick{q<=1;}`:           api.ErrTwo,
		`wire w:2; assign w[0]=w[1:1]; assign w[1]=w[0:0]; check c:1;`: api.ErrLoop,
	} {
		refusedWhole(t, items, whole(t, `module m(in a:2){`+items+`}`), want)
	}
}

// sound is a design in which all can be spoilt.
const sound = `module m(in a:2,out y:2,in b:3){reg q:2=3; wire w:3; assign w=b; comb{case(a){1:{y=q;} else:{y=a;}}} on tick{q<=a;} check c:w==b;}`

// TestNotSized: nor is anything told of what is not sized.
func TestNotSized(t *testing.T) {
	for what, spoil := range map[string]func(d *api.Flat){
		"no name":                 func(d *api.Flat) { d.Signals[3].Name = "" },
		"a name twice":            func(d *api.Flat) { d.Signals[4].Name = "a" },
		"W 0":                     func(d *api.Flat) { d.Signals[3].W = 0 },
		"W 65":                    func(d *api.Flat) { d.Signals[2].W = 65 },
		"the least W":             func(d *api.Flat) { d.Signals[2].W = math.MinInt },
		"no such kind":            func(d *api.Flat) { d.Signals[3].Kind = 5 },
		"Init of a wire":          func(d *api.Flat) { d.Signals[4].Init = 1 },
		"Init that is too great":  func(d *api.Flat) { d.Signals[3].Init = 4 },
		"an expression's width":   func(d *api.Flat) { d.Procs[0].L[0].E[0].W = 0 },
		"a check of three bits":   func(d *api.Flat) { d.Checks[0].E = d.Procs[0].L[0].E[0] },
		"a check that is none":    func(d *api.Flat) { d.Checks[0].E = api.E{} },
		"no signal":               func(d *api.Flat) { d.Procs[0].L[0].Sig = 5 },
		"a signal below 0":        func(d *api.Flat) { d.Checks[0].E.L[0].Sig = -1 },
		"bits that there are not": func(d *api.Flat) { d.Procs[2].L[0].Hi = 2 },
		"a wire in an on tick":    func(d *api.Flat) { d.Procs[0].Clocked = true },
		"a register in a comb":    func(d *api.Flat) { d.Procs[2].Clocked = false },
		"an input that is driven": func(d *api.Flat) { d.Procs[0].L[0].Sig = 2 },
		"a label's width":         func(d *api.Flat) { d.Procs[1].L[0].L[0].E[0].W = 3 },
		"an arm alone":            func(d *api.Flat) { d.Procs[0].L[0] = api.T{Op: api.ArmT} },
		"many signals":            func(d *api.Flat) { d.Signals = append(d.Signals, make([]api.Signal, 512)...) },
		"many processes":          func(d *api.Flat) { d.Procs = append(d.Procs, make([]api.Proc, 1022)...) },
	} {
		d := whole(t, sound)
		spoil(&d)
		refusedWhole(t, what, d, api.ErrArg)
	}
}

// TestNoValues: what is no list of values of the design.
func TestNoValues(t *testing.T) {
	d := whole(t, sound)
	good := []uint64{3, 3, 7, 3, 7}
	puts(t, "the greatest ones", d, good, []uint64{0, 0}, []uint64{0, 3, 0, 3, 7})
	looks(t, "the greatest ones", d, good, []uint64{3}, []bool{true})
	for k, v := range [][]uint64{nil, {}, {3}, {3, 3, 7, 3}, {3, 3, 7, 3, 7, 0}, {4, 3, 7, 3, 7}, {3, 4, 7, 3, 7}, {3, 3, 8, 3, 7}, {3, 3, 7, 4, 7}, {3, 3, 7, 3, 8}, {3, 3, 7, 3, math.MaxUint64}, {3, 3, 1 << 63, 3, 7}} {
		refused(t, k, d, v, []uint64{0, 0}, api.ErrArg)
		refused(t, k, d, v, nil, api.ErrArg)
	}
	refused(t, "a value, but no signals", api.Flat{}, []uint64{0}, nil, api.ErrArg)
}

// badIns are no inputs of the sound design.
var badIns = [][]uint64{nil, {}, {1}, {1, 1, 1}, {4, 1}, {1, 8}, {math.MaxUint64, 1}, {1, math.MaxUint64}, {1 << 32, 1}, {1, 1 << 63}, {1, 1, 1, 1, 1}}

func TestNoInputs(t *testing.T) {
	d := whole(t, sound)
	for k, in := range badIns {
		refusedPut(t, k, d, []uint64{0, 0, 0, 0, 0}, in, api.ErrArg)
		refusedPut(t, k, d, nil, in, api.ErrArg)
	}
	refusedPut(t, "one, of none", whole(t, `module m(){reg q:1=0;}`), []uint64{0}, []uint64{0}, api.ErrArg)
	refusedPut(t, "one, of nothing", api.Flat{}, nil, []uint64{0}, api.ErrArg)
}

// TestRunOfNoInputs: if one row can't be put, nothing is told, whichever it is.
func TestRunOfNoInputs(t *testing.T) {
	d := whole(t, sound)
	good := []uint64{3, 7}
	if outs, checks, e := cycle.Run(d, [][]uint64{good, good, good}); e != api.OK || len(outs) != 3 || len(checks) != 3 {
		t.Errorf("%x and %t, error %d", outs, checks, e)
	}
	for k, in := range badIns {
		for place := range 3 {
			ins := [][]uint64{good, good, good}
			ins[place] = in
			refusedRun(t, k, d, ins, api.ErrArg)
		}
		refusedRun(t, k, d, [][]uint64{in}, api.ErrArg)
	}
	refusedRun(t, "a design that is not clean, too", whole(t, `module m(in a:1){wire w:1;}`), [][]uint64{{2}}, api.ErrNone)
}
