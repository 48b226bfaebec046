package cycle_test

import (
	"fmt"
	"slices"
	"testing"

	"filigree/api"
	"filigree/cycle"
	"filigree/madeup"
)

// told is all that is told of a design, of values, and of inputs.
func told(d api.Flat, v []uint64, ins [][]uint64) []any {
	begin, _ := cycle.Reset(d)
	put, e := cycle.Put(d, v, ins[0])
	settled, _ := cycle.Settle(d, v)
	ticked, _ := cycle.Tick(d, v)
	outs, checks, _ := cycle.Outs(d, v)
	allOuts, allChecks, _ := cycle.Run(d, ins)
	return []any{begin, put, settled, ticked, outs, checks, allOuts, allChecks, e}
}

// wipe writes into all that was told.
func wipe(l []any) {
	for _, one := range l {
		switch one := one.(type) {
		case []uint64:
			spoil(one)
		case []bool:
			spoil(one)
		case [][]uint64:
			spoilRows(one)
		case [][]bool:
			spoilRows(one)
		}
	}
}

func spoil[N any](l []N) { clear(l[:cap(l)]) }

func spoilRows[N any](rows [][]N) {
	for _, row := range rows {
		spoil(row)
	}
	spoil(rows)
}

// TestArgumentsStay: what is handed in is not changed, and what is told does not hang on what is written into it afterwards.
func TestArgumentsStay(t *testing.T) {
	c := madeup.Chance(5)
	for range 100 {
		d := whole(t, c.Module(madeup.Faults{}))
		v, ins := c.Values(d), c.Inputs(d, 4)
		before := fmt.Sprint(d, v, ins)
		all := told(d, v, ins)
		if after := fmt.Sprint(d, v, ins); after != before {
			t.Fatalf("%s becomes %s", before, after)
		}
		want := fmt.Sprint(all)
		madeup.Wipe(d)
		spoil(v)
		spoilRows(ins)
		if got := fmt.Sprint(all); got != want {
			t.Fatalf("%s becomes %s", want, got)
		}
	}
}

// TestAgain: the same is told whenever it is asked, whatever was asked ahead of it, and whatever was written into what was told.
func TestAgain(t *testing.T) {
	c := madeup.Chance(6)
	for range 50 {
		d, other := whole(t, c.Module(madeup.Faults{})), whole(t, c.Module(madeup.Faults{}))
		v, ins := c.Values(d), c.Inputs(d, 4)
		first := told(d, v, ins)
		want := fmt.Sprint(first)
		for range 3 {
			told(other, c.Values(other), c.Inputs(other, 2))
			again := told(d, v, ins)
			if got := fmt.Sprint(again); got != want {
				t.Fatalf("%s, and then %s", want, got)
			}
			wipe(again)
			if got := fmt.Sprint(first); got != want {
				t.Fatalf("%s becomes %s", want, got)
			}
		}
	}
}

// TestRowsAreTheirOwn: what is written into one row changes no other one.
func TestRowsAreTheirOwn(t *testing.T) {
	d := whole(t, `module m(in a:4,out y:4,out z:4){assign y=a; assign z=a; check c:a[0]; check k:1;}`)
	ins := rows[uint64](1, 1, 1, 1)
	outs, checks, _ := cycle.Run(d, ins)
	spoil(outs[1])
	spoil(checks[2])
	for k := range outs {
		wantOuts, wantChecks := []uint64{1, 1}, []bool{true, true}
		if k == 1 {
			clear(wantOuts)
		}
		if k == 2 {
			clear(wantChecks)
		}
		if !slices.Equal(outs[k], wantOuts) || !slices.Equal(checks[k], wantChecks) {
			t.Errorf("row %d: %x and %t", k, outs[k], checks[k])
		}
	}
}

// TestNamesMakeNoDifference: nor does the name of a check.
func TestNamesMakeNoDifference(t *testing.T) {
	c := madeup.Chance(7)
	for range 50 {
		d := whole(t, c.Module(madeup.Faults{}))
		v, ins := c.Values(d), c.Inputs(d, 4)
		want := fmt.Sprint(told(d, v, ins))
		for k := range d.Signals {
			d.Signals[k].Name = fmt.Sprint("another name ", len(d.Signals)-k)
		}
		for k := range d.Checks {
			d.Checks[k].Name = ""
		}
		if got := fmt.Sprint(told(d, v, ins)); got != want {
			t.Fatalf("%s, and then %s", want, got)
		}
	}
}
