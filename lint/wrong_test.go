package lint_test

import (
	"math"
	"testing"

	"filigree/api"
)

// wrongOnes are designs that are not sized, by what is wrong: each is a clean one that is spoilt in one place.
var wrongOnes = map[string]func(d *api.Flat){
	"no name":                   func(d *api.Flat) { d.Signals[2].Name = "" },
	"a name twice":              func(d *api.Flat) { d.Signals[2].Name = "a" },
	"W 0":                       func(d *api.Flat) { d.Signals[6].W = 0 },
	"W 65":                      func(d *api.Flat) { d.Signals[6].W = 65 },
	"W below 0":                 func(d *api.Flat) { d.Signals[6].W = -1 },
	"the greatest W":            func(d *api.Flat) { d.Signals[6].W = math.MaxInt },
	"the least W":               func(d *api.Flat) { d.Signals[6].W = math.MinInt },
	"no kind":                   func(d *api.Flat) { d.Signals[6].Kind = 0 },
	"no such kind":              func(d *api.Flat) { d.Signals[6].Kind = 5 },
	"Init of an input":          func(d *api.Flat) { d.Signals[0].Init = 1 },
	"Init that is too great":    func(d *api.Flat) { d.Signals[6].Init = 4 },
	"many signals":              func(d *api.Flat) { d.Signals = append(d.Signals, make([]api.Signal, 512)...) },
	"many processes":            func(d *api.Flat) { d.Procs = append(d.Procs, make([]api.Proc, 1022)...) },
	"a check of two bits":       func(d *api.Flat) { d.Checks[0].E = d.Procs[0].L[0].E[0] },
	"a check without a width":   func(d *api.Flat) { d.Checks[0].E.W = 0 },
	"a check that is none":      func(d *api.Flat) { d.Checks[0].E = api.E{} },
	"no width":                  func(d *api.Flat) { d.Procs[0].L[0].E[0].W = 0 },
	"another width":             func(d *api.Flat) { d.Procs[0].L[0].E[0].W = 1 },
	"no width further in":       func(d *api.Flat) { d.Procs[0].L[0].E[0].L[1].W = 0 },
	"no width in the last one":  func(d *api.Flat) { d.Procs[2].L[0].E[0].W = 0 },
	"no value":                  func(d *api.Flat) { d.Procs[0].L[0].E = nil },
	"no kind of a statement":    func(d *api.Flat) { d.Procs[0].L[0].Op = 0 },
	"an arm alone":              func(d *api.Flat) { d.Procs[0].L[0] = api.T{Op: api.ArmT} },
	"no signal":                 func(d *api.Flat) { d.Procs[0].L[0].Sig = 7 },
	"a signal below 0":          func(d *api.Flat) { d.Procs[0].L[0].Sig = -1 },
	"an expression's signal":    func(d *api.Flat) { d.Procs[0].L[0].E[0].L[0].Sig = 7 },
	"bits that there are not":   func(d *api.Flat) { d.Procs[0].L[0].Hi, d.Procs[0].L[0].Lo = 2, 1 },
	"bits turned round":         func(d *api.Flat) { d.Procs[0].L[0].Hi, d.Procs[0].L[0].Lo = 0, 1 },
	"an input that is driven":   func(d *api.Flat) { d.Procs[0].L[0].Sig = 2 },
	"a register in a comb":      func(d *api.Flat) { d.Procs[0].L[0].Sig = 6 },
	"a wire in an on tick":      func(d *api.Flat) { d.Procs[0].Clocked = true },
	"a register's process":      func(d *api.Flat) { d.Procs[2].Clocked = false },
	"a block in an arm's stead": func(d *api.Flat) { d.Procs[1].L[0].L[0].Op = api.BlockT },
	"no last arm":               func(d *api.Flat) { d.Procs[1].L[0].L = d.Procs[1].L[0].L[:1] },
	"a label's width":           func(d *api.Flat) { d.Procs[1].L[0].L[0].E[0].W = 3 },
}

// TestNotSized: of what is not sized no call tells anything, whether it is clean or not.
func TestNotSized(t *testing.T) {
	const items = `wire w:2; wire u:1; reg q:2=0; assign w=c+1; comb{case(w){1:{u=a;} else:{u=b;}}} on tick{q<=c;} check k:u;`
	clean(t, "as it was", design(t, items), []int{0, 1}, []int{0, 1, 0})
	for what, spoil := range wrongOnes {
		d := design(t, items)
		spoil(&d)
		refused(t, what, d, api.ErrArg)
	}
}

// TestWidthsThatAreNotTold: a design as elab tells it is not sized, whatever else is wrong with it.
func TestWidthsThatAreNotTold(t *testing.T) {
	for _, items := range []string{`assign w=a;`, `assign w=a; assign w=b;`, `assign w=w;`, `comb{if(a){w=b;}}`, `check k:a;`, `on tick{q<=w;}`} {
		refused(t, items, unsized(t, `module m(`+inputs+`){wire w:1; reg q:1=0; `+items+`}`), api.ErrArg)
	}
	refused(t, "a width that does not fit", unsized(t, `module m(`+inputs+`){wire w:1; assign w=c;}`), api.ErrArg)
	clean(t, "no widths to tell", unsized(t, `module m(`+inputs+`){reg q:1=0; comb{} on tick{}}`), []int{0}, []int{0, 0})
}
