package stmt_test

import (
	"fmt"
	"slices"
	"testing"

	"filigree/api"
	"filigree/stmt"
)

// told is all that is told of a process, and of values.
type told struct {
	values                      []uint64
	reads, writes, always, bits []int
}

func allTold(t *testing.T, d api.Flat, v []uint64, p int) told {
	t.Helper()
	values, err := stmt.Run(d, v, p)
	reads, readsErr := stmt.Reads(d, p)
	writes, writesErr := stmt.Writes(d, p)
	always, alwaysErr := stmt.Always(d, p)
	bits, bitsErr := stmt.Bits(d)
	if err != api.OK || readsErr != api.OK || writesErr != api.OK || alwaysErr != api.OK || bitsErr != api.OK {
		t.Fatalf("errors %d, %d, %d, %d, %d", err, readsErr, writesErr, alwaysErr, bitsErr)
	}
	return told{values, reads, writes, always, bits}
}

// wipe writes into all lists of a design.
func wipe(d api.Flat) {
	for _, p := range d.Procs {
		for _, s := range statements(p.L) {
			clear(s.E)
			clear(s.L)
		}
		clear(p.L)
	}
	clear(d.Procs)
	clear(d.Signals)
}

// TestArgumentsStay: what is handed in is not changed, and does not stand in what is answered: it may be written into afterwards.
func TestArgumentsStay(t *testing.T) {
	c := chance(4)
	for range 500 {
		m := c.design()
		d, v, p := m.d, m.values(), c.below(len(m.d.Procs))
		before := fmt.Sprint(d, v)
		first := allTold(t, d, v, p)
		if after := fmt.Sprint(d, v); after != before {
			t.Fatalf("%s becomes %s", before, after)
		}
		want := fmt.Sprint(first)
		wipe(d)
		clear(v)
		if got := fmt.Sprint(first); got != want {
			t.Fatalf("%s becomes %s", want, got)
		}
	}
}

// TestValuesAreNew: even a process that changes nothing tells values that are another list.
func TestValuesAreNew(t *testing.T) {
	for _, text := range []string{`comb{}`, `on tick{}`, `comb{z=z;}`, `on tick{q<=q;}`} {
		d, v := design(t, text), values()
		got, err := stmt.Run(d, v, tested)
		if err != api.OK || !slices.Equal(got, v) || &got[0] == &v[0] {
			t.Fatalf("%s: %d, error %d", text, got, err)
		}
		got[0], got = 0, append(got, 3)
		if !slices.Equal(v, values()) {
			t.Errorf("%s: %d, behind %d", text, v, got)
		}
	}
}

// TestAgain: the same is told whenever it is asked, whatever was asked ahead of it, and whatever was written into what was told.
func TestAgain(t *testing.T) {
	c := chance(5)
	for range 100 {
		m, other := c.design(), c.design()
		v, p := m.values(), c.below(len(m.d.Procs))
		first := allTold(t, m.d, v, p)
		want := fmt.Sprint(first)
		for range 3 {
			allTold(t, other.d, other.values(), 0)
			again := allTold(t, m.d, v, p)
			if got := fmt.Sprint(again); got != want {
				t.Fatalf("%s, and then %s", want, got)
			}
			clear(again.values)
			for _, l := range [][]int{again.reads, again.writes, again.always, again.bits} {
				clear(l[:cap(l)])
			}
			if got := fmt.Sprint(first); got != want {
				t.Fatalf("%s becomes %s", want, got)
			}
		}
	}
}

// TestListsWithoutElements: those that are empty are as those that are nil.
func TestListsWithoutElements(t *testing.T) {
	empty := api.T{Op: api.BlockT, E: []api.E{}, L: []api.T{}}
	value := num(1, 1)
	value.L = []api.E{}
	s := set(2, 0, 0, value)
	s.L = []api.T{}
	d := api.Flat{Signals: many(3, 4).Signals, Checks: []api.Check{}}
	d.Procs = []api.Proc{{L: []api.T{empty, s, choice(value, empty, empty), cases(value, api.T{Op: api.ArmT, E: []api.E{}, L: []api.T{}})}}, {L: []api.T{}}, {Clocked: true}}
	makes(t, "empty lists", d, []uint64{6, 6, 6}, 0, []uint64{6, 6, 7})
	all(t, "empty lists", d, 0, nil, []int{8}, []int{8})
	for p := 1; p < 3; p++ {
		makes(t, "no statements", d, []uint64{6, 6, 6}, p, []uint64{6, 6, 6})
		all(t, "no statements", d, p, nil, nil, nil)
	}
	d = api.Flat{Procs: []api.Proc{{}, {Clocked: true, L: []api.T{empty}}}}
	for p := range 2 {
		makes(t, "no signals", d, nil, p, nil)
		makes(t, "no signals", d, []uint64{}, p, nil)
		all(t, "no signals", d, p, nil, nil, nil)
	}
}
