package stmt_test

import (
	"fmt"
	"math"
	"testing"

	"filigree/api"
	"filigree/stmt"
)

// refused wants that all calls that are handed a process tell ErrArg, and nothing else.
func refused(t *testing.T, what any, d api.Flat, v []uint64, p int) {
	t.Helper()
	if got, err := stmt.Run(d, v, p); err != api.ErrArg || len(got) > 0 {
		t.Errorf("%v: Run tells %d, error %d", what, got, err)
	}
	for name, call := range map[string]func(d api.Flat, p int) ([]int, api.Errno){"Reads": stmt.Reads, "Writes": stmt.Writes, "Always": stmt.Always} {
		if got, err := call(d, p); err != api.ErrArg || len(got) > 0 {
			t.Errorf("%v: %s tells %d, error %d", what, name, got, err)
		}
	}
}

// refusedWhole wants that all calls tell ErrArg of a design.
func refusedWhole(t *testing.T, what any, d api.Flat, v []uint64) {
	t.Helper()
	for _, p := range []int{0, 1, 2, 3, -1, len(d.Procs) - 1} {
		refused(t, what, d, v, p)
	}
	if got, err := stmt.Bits(d); err != api.ErrArg || len(got) > 0 {
		t.Errorf("%v: Bits tells %d, error %d", what, got, err)
	}
}

func TestProcessesThatThereAreNot(t *testing.T) {
	d := design(t, `comb{z=d;}`)
	for _, p := range []int{-1, 4, 5, 1024, math.MaxInt, math.MinInt, math.MinInt32, 1 << 32, -1 << 32} {
		refused(t, p, d, values(), p)
	}
	for _, p := range []int{0, 1, -1} {
		refused(t, "no process", api.Flat{}, nil, p)
		refused(t, "no process", api.Flat{Signals: d.Signals}, values(), p)
	}
	d.Procs = d.Procs[:2]
	makes(t, "the last one", d, values(), 1, after(t, d, `z=9`))
	refused(t, "one behind it", d, values(), 2)
}

// TestValuesThatAreNone: Run tells nothing of them; the other calls ask for none.
func TestValuesThatAreNone(t *testing.T) {
	d := design(t, `comb{y=a;}`)
	spoilt := func(signal int, v uint64) []uint64 {
		l := values()
		l[signal] = v
		return l
	}
	for what, v := range map[string][]uint64{
		"none": nil, "no more": {}, "one too few": values()[:11], "one too many": append(values(), 0),
		"the first one too great": spoilt(0, 2), "the second one too great": spoilt(1, math.MaxUint64), "a bit too great": spoilt(3, 16), "one that is not read too great": spoilt(10, 4),
	} {
		for p := range d.Procs {
			if got, err := stmt.Run(d, v, p); err != api.ErrArg || len(got) > 0 {
				t.Errorf("%s: %d, error %d", what, got, err)
			}
		}
	}
	for signal, v := range []uint64{1, 1, 3, 15, math.MaxUint64, 1, 15, math.MaxUint64, 255, 15, 3, math.MaxUint64} {
		want := spoilt(signal, v)
		want[5] = want[0]
		makes(t, "just not too great", d, spoilt(signal, v), tested, want)
	}
}

// TestDesignsThatAreNotSized: no call tells anything of a design that is not, even if nothing is wrong with the process.
func TestDesignsThatAreNotSized(t *testing.T) {
	signal := func(s api.Signal) func(*api.Flat) {
		return func(d *api.Flat) { d.Signals[10] = s }
	}
	one := func(change func(s *api.T)) func(*api.Flat) {
		return func(d *api.Flat) { change(&d.Procs[tested].L[0]) }
	}
	for what, spoil := range map[string]func(d *api.Flat){
		"no name":                 signal(api.Signal{W: 2, Kind: api.RegK}),
		"a name twice":            signal(api.Signal{Name: "a", W: 2, Kind: api.RegK}),
		"W 0":                     signal(api.Signal{Name: "r", Kind: api.RegK}),
		"W 65":                    signal(api.Signal{Name: "r", W: 65, Kind: api.RegK}),
		"W below 0":               signal(api.Signal{Name: "r", W: -1, Kind: api.RegK}),
		"the greatest W":          signal(api.Signal{Name: "r", W: math.MaxInt, Kind: api.RegK}),
		"the least W":             signal(api.Signal{Name: "r", W: math.MinInt, Kind: api.RegK}),
		"no kind":                 signal(api.Signal{Name: "r", W: 2}),
		"Init that is great":      signal(api.Signal{Name: "r", W: 2, Kind: api.RegK, Init: 4}),
		"Init of an input":        func(d *api.Flat) { d.Signals[0].Init = 1 },
		"a check of two bits":     func(d *api.Flat) { d.Checks = []api.Check{{Name: "c", E: bitsOf(2, 1, 0)}} },
		"a check of no width":     func(d *api.Flat) { d.Checks = []api.Check{{Name: "c", E: api.E{Op: api.NumE, V: 1}}} },
		"another process's width": func(d *api.Flat) { d.Procs[0].L[0].E[0].W = 0 },
		"a last process's width":  func(d *api.Flat) { d.Procs[3].L[0].E[0].W = 0 },
		"no width":                one(func(s *api.T) { s.E[0].W = 0 }),
		"another width":           one(func(s *api.T) { s.E[0].W = 3 }),
		"no value":                one(func(s *api.T) { s.E = nil }),
		"two values":              one(func(s *api.T) { s.E = append(s.E, s.E[0]) }),
		"parts":                   one(func(s *api.T) { s.L = []api.T{{Op: api.BlockT}} }),
		"no kind of a statement":  one(func(s *api.T) { s.Op = 0 }),
		"another one":             one(func(s *api.T) { s.Op = 6 }),
		"an arm alone":            one(func(s *api.T) { *s = arm(nil) }),
		"bits above a signal's":   one(func(s *api.T) { s.Hi, s.Lo = 4, 1 }),
		"bits below a signal's":   one(func(s *api.T) { s.Hi, s.Lo = 2, -1 }),
		"bits turned round":       one(func(s *api.T) { s.Hi, s.Lo = 0, 3 }),
		"no signal":               one(func(s *api.T) { s.Sig = 12 }),
		"a signal below 0":        one(func(s *api.T) { s.Sig = -1 }),
		"an input that is driven": one(func(s *api.T) { s.Sig = 3 }),
		"a register in a comb":    one(func(s *api.T) { s.Sig = 9 }),
		"a wire in an on tick":    func(d *api.Flat) { d.Procs[tested].Clocked = true },
		"one block":               one(func(s *api.T) { *s = choice(bitsOf(0, 0, 0), block(), block()); s.L = s.L[:1] }),
		"three blocks":            one(func(s *api.T) { *s = choice(bitsOf(0, 0, 0), block(), block()); s.L = append(s.L, block()) }),
		"a choice of two bits":    one(func(s *api.T) { *s = choice(bitsOf(2, 1, 0), block(), block()) }),
		"a choice of statements":  one(func(s *api.T) { *s = choice(bitsOf(0, 0, 0), *s, block()) }),
		"no arms":                 one(func(s *api.T) { *s = cases(bitsOf(2, 1, 0)) }),
		"no last arm":             one(func(s *api.T) { *s = cases(bitsOf(2, 1, 0), arm([]api.E{num(2, 1)})) }),
		"two last arms":           one(func(s *api.T) { *s = cases(bitsOf(2, 1, 0), arm(nil), arm(nil)) }),
		"a label of another W":    one(func(s *api.T) { *s = cases(bitsOf(2, 1, 0), arm([]api.E{num(3, 1)}), arm(nil)) }),
		"a label that is none":    one(func(s *api.T) { *s = cases(bitsOf(2, 1, 0), arm([]api.E{bitsOf(2, 1, 0)}), arm(nil)) }),
		"a block of an arm":       one(func(s *api.T) { *s = block(arm(nil)) }),
		"a block with a value":    one(func(s *api.T) { s.Op, s.Sig, s.Hi = api.BlockT, 0, 0 }),
		"many processes":          func(d *api.Flat) { d.Procs = append(d.Procs, make([]api.Proc, 1021)...) },
	} {
		d := design(t, `comb{z=d;}`)
		spoil(&d)
		refusedWhole(t, what, d, make([]uint64, len(d.Signals)))
	}
}

// TestWidthsThatAreNotTold: a design as elab tells it is not sized.
func TestWidthsThatAreNotTold(t *testing.T) {
	d := design(t, `comb{z=d;}`)
	for k := range d.Procs {
		for n := range d.Procs[k].L {
			d := design(t, `comb{z=d;}`)
			d.Procs[k].L[n].E[0].W = 0
			refusedWhole(t, fmt.Sprint("statement ", n, " of ", k), d, values())
		}
	}
	makes(t, "as it was", d, values(), tested, after(t, d, `z=9`))
}
