package cycle_test

import (
	"fmt"
	"slices"
	"testing"

	"filigree/api"
	"filigree/cycle"
	"filigree/madeup"
)

// whole is the design of the module m of a text, sized.
func whole(t *testing.T, text string) api.Flat {
	t.Helper()
	d, e := madeup.Design(text)
	if e != api.OK {
		t.Fatalf("%q: error %d", text, e)
	}
	return d
}

// makes wants what a call makes of values.
func makes(t *testing.T, what any, call func(d api.Flat, v []uint64) ([]uint64, api.Errno), d api.Flat, v, want []uint64) {
	t.Helper()
	if got, e := call(d, v); e != api.OK || !slices.Equal(got, want) {
		t.Errorf("%v: %x of %x, error %d, want %x", what, got, v, e, want)
	}
}

// puts wants what values are when inputs are set.
func puts(t *testing.T, what any, d api.Flat, v, in, want []uint64) {
	t.Helper()
	if got, e := cycle.Put(d, v, in); e != api.OK || !slices.Equal(got, want) {
		t.Errorf("%v: %x of %x and %x, error %d, want %x", what, got, v, in, e, want)
	}
}

// begins wants what values are in the beginning.
func begins(t *testing.T, what any, d api.Flat, want []uint64) {
	t.Helper()
	if got, e := cycle.Reset(d); e != api.OK || !slices.Equal(got, want) {
		t.Errorf("%v: %x, error %d, want %x", what, got, e, want)
	}
}

// looks wants which outputs and checks there are.
func looks(t *testing.T, what any, d api.Flat, v, outs []uint64, checks []bool) {
	t.Helper()
	if got, holds, e := cycle.Outs(d, v); e != api.OK || !slices.Equal(got, outs) || !slices.Equal(holds, checks) {
		t.Errorf("%v: %x and %t of %x, error %d, want %x and %t", what, got, holds, v, e, outs, checks)
	}
}

// runs wants the rows of all cycles.
func runs(t *testing.T, what any, d api.Flat, ins, outs [][]uint64, checks [][]bool) {
	t.Helper()
	got, holds, e := cycle.Run(d, ins)
	if e != api.OK || !slices.EqualFunc(got, outs, slices.Equal) || !slices.EqualFunc(holds, checks, slices.Equal) {
		t.Errorf("%v: %v and %v of %v, error %d, want %v and %v", what, brief{got}, brief{holds}, brief{ins}, e, brief{outs}, brief{checks})
	}
}

// refused wants that all calls that are handed values tell an error, and nothing else.
func refused(t *testing.T, what any, d api.Flat, v, in []uint64, want api.Errno) {
	t.Helper()
	refusedPut(t, what, d, v, in, want)
	for name, call := range map[string]func(d api.Flat, v []uint64) ([]uint64, api.Errno){"Settle": cycle.Settle, "Tick": cycle.Tick} {
		if got, e := call(d, v); e != want || len(got) > 0 {
			t.Errorf("%v: %s tells %x, error %d, want error %d", what, name, got, e, want)
		}
	}
	if got, holds, e := cycle.Outs(d, v); e != want || len(got) > 0 || len(holds) > 0 {
		t.Errorf("%v: Outs tells %x and %t, error %d, want error %d", what, got, holds, e, want)
	}
}

func refusedPut(t *testing.T, what any, d api.Flat, v, in []uint64, want api.Errno) {
	t.Helper()
	if got, e := cycle.Put(d, v, in); e != want || len(got) > 0 {
		t.Errorf("%v: Put tells %x, error %d, want error %d", what, got, e, want)
	}
}

func refusedRun(t *testing.T, what any, d api.Flat, ins [][]uint64, want api.Errno) {
	t.Helper()
	if outs, checks, e := cycle.Run(d, ins); e != want || len(outs) > 0 || len(checks) > 0 {
		t.Errorf("%v: Run tells %v and %v, error %d, want error %d", what, brief{outs}, brief{checks}, e, want)
	}
}

// refusedWhole wants that all calls tell an error of a design, whatever else they are handed.
func refusedWhole(t *testing.T, what any, d api.Flat, want api.Errno) {
	t.Helper()
	for _, v := range [][]uint64{nil, make([]uint64, len(d.Signals))} {
		refused(t, what, d, v, nil, want)
		refused(t, what, d, v, v, want)
		refusedRun(t, what, d, [][]uint64{v}, want)
	}
	refusedRun(t, what, d, nil, want)
	if got, e := cycle.Reset(d); e != want || len(got) > 0 {
		t.Errorf("%v: Reset tells %x, error %d, want error %d", what, got, e, want)
	}
}

// rows are lists of one value each.
func rows[N any](l ...N) [][]N {
	var rows [][]N
	for _, one := range l {
		rows = append(rows, []N{one})
	}
	return rows
}

// brief is shown as a text that is not too long, which is made only where it is shown.
type brief struct{ of any }

func (b brief) String() string {
	return fmt.Sprintf("%.2000s", fmt.Sprintf("%+v", b.of))
}
