package lint

import (
	"slices"

	"filigree/api"
)

// clean is a design that is clean: of each process on which processes of wires it hangs, the order of these, and which processes are clocked.
type clean struct {
	hangs          [][]int
	order, clocked []int
}

func cleanOf(d api.Flat) (clean, api.Errno) {
	w, e := wiringOf(d)
	switch {
	case e != api.OK:
		return clean{}, e
	case !w.drivesAll(d.Signals):
		return clean{}, api.ErrNone
	case w.latches():
		return clean{}, api.ErrLatch
	}
	hangs, wires := w.hangs(), w.numbers(false)
	order := orderOf(wires, hangs)
	if len(order) < len(wires) {
		return clean{}, api.ErrLoop
	}
	return clean{hangs: hangs, order: order, clocked: w.numbers(true)}, api.OK
}

// orderOf is processes of wires, each behind those on which it hangs, always the least next that can come. What hangs on itself, or on what does, never comes.
func orderOf(wires []int, hangs [][]int) []int {
	var order []int
	come := make([]bool, len(hangs))
	for {
		p, found := nextOf(wires, hangs, come)
		if !found {
			return order
		}
		come[p] = true
		order = append(order, p)
	}
}

// nextOf is the least of some processes that has not come, while all on which it hangs have.
func nextOf(wires []int, hangs [][]int, come []bool) (int, bool) {
next:
	for _, p := range wires {
		if come[p] {
			continue
		}
		for _, on := range hangs[p] {
			if !come[on] {
				continue next
			}
		}
		return p, true
	}
	return 0, false
}

// levels is of each process one more than the greatest of those on which it hangs, or 0.
func (c clean) levels() []int {
	levels := make([]int, len(c.hangs))
	for _, p := range slices.Concat(c.order, c.clocked) {
		for _, on := range c.hangs[p] {
			levels[p] = max(levels[p], levels[on]+1)
		}
	}
	return levels
}
