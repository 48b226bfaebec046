package lint_test

import (
	"slices"
	"testing"

	"filigree/api"
	"filigree/lint"
	"filigree/stmt"
)

// model is the chapter's sentences, each asked of all bits, and of all pairs of processes; what a process reads and writes layer 11 tells, of the whole design.
type model struct {
	fault   api.Errno
	drivers []int
	wires   []int
	hangs   [][]bool
}

func modelOf(d api.Flat) model {
	var m model
	var reads, writes, always [][]int
	for p, one := range d.Procs {
		r, _ := stmt.Reads(d, p)
		w, _ := stmt.Writes(d, p)
		a, _ := stmt.Always(d, p)
		reads, writes, always = append(reads, r), append(writes, w), append(always, a)
		if !one.Clocked {
			m.wires = append(m.wires, p)
		}
	}
	two, undriven, latch, ring := false, false, false, false
	for _, s := range d.Signals {
		for range s.W {
			drivers := driversOf(len(m.drivers), writes)
			two = two || len(drivers) > 1
			undriven = undriven || len(drivers) == 0 && (s.Kind == api.OutK || s.Kind == api.WireK)
			m.drivers = append(m.drivers, append(drivers, -1)[0])
		}
	}
	for _, p := range m.wires {
		latch = latch || !slices.Equal(writes[p], always[p])
	}
	for p := range d.Procs {
		m.hangs = append(m.hangs, make([]bool, len(d.Procs)))
		for _, q := range m.wires {
			m.hangs[p][q] = slices.ContainsFunc(reads[p], func(bit int) bool { return slices.Contains(writes[q], bit) })
		}
	}
	around := reached(m.hangs)
	for _, p := range m.wires {
		ring = ring || around[p][p]
	}
	m.fault = firstOf([]bool{two, undriven, latch, ring}, []api.Errno{api.ErrTwo, api.ErrNone, api.ErrLatch, api.ErrLoop})
	return m
}

// driversOf are the processes that write a bit.
func driversOf(bit int, writes [][]int) []int {
	var l []int
	for p, bits := range writes {
		if slices.Contains(bits, bit) {
			l = append(l, p)
		}
	}
	return l
}

// reached is who hangs on whom over however many others.
func reached(hangs [][]bool) [][]bool {
	var far [][]bool
	for _, row := range hangs {
		far = append(far, slices.Clone(row))
	}
	for over := range far {
		for p := range far {
			for q := range far {
				far[p][q] = far[p][q] || far[p][over] && far[over][q]
			}
		}
	}
	return far
}

func firstOf(so []bool, errors []api.Errno) api.Errno {
	for k, is := range so {
		if is {
			return errors[k]
		}
	}
	return api.OK
}

// isClean wants of a clean design that its order is one, and the least that can be, and of each process its level.
func isClean(t *testing.T, what any, d api.Flat, m model) {
	t.Helper()
	order, e := lint.Order(d)
	levels, levelsErr := lint.Levels(d)
	if checked := lint.Check(d); checked != api.OK || e != api.OK || levelsErr != api.OK || len(levels) != len(d.Procs) {
		t.Fatalf("%v: %d, %d, errors %d, %d, %d", what, order, levels, checked, e, levelsErr)
	}
	if sorted := slices.Sorted(slices.Values(order)); !slices.Equal(sorted, m.wires) {
		t.Fatalf("%v: %d, want each of %d once", what, order, m.wires)
	}
	for k, p := range order {
		for _, later := range order[k:] {
			if m.hangs[p][later] {
				t.Fatalf("%v: %d, but %d hangs on %d", what, order, p, later)
			}
			if later < p && !slices.ContainsFunc(order[k:], func(on int) bool { return m.hangs[later][on] }) {
				t.Fatalf("%v: %d, but %d could come ahead of %d", what, order, later, p)
			}
		}
	}
	for p, level := range levels {
		want := 0
		for on, so := range m.hangs[p] {
			if so {
				want = max(want, levels[on]+1)
			}
		}
		if level != want {
			t.Fatalf("%v: %d, want %d of %d", what, levels, want, p)
		}
	}
}
