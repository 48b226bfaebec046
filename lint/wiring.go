package lint

import (
	"slices"

	"filigree/api"
	"filigree/stmt"
)

// none is the driver of a bit that no process drives.
const none = -1

// wiring is a design's processes, and which of them drives each of its bits.
type wiring struct {
	processes []process
	drivers   []int
}

func wiringOf(d api.Flat) (wiring, api.Errno) {
	lowest, e := stmt.Bits(d)
	if e != api.OK {
		return wiring{}, e
	}
	w := wiring{drivers: slices.Repeat([]int{none}, lowest[len(d.Signals)])}
	for k, one := range d.Procs {
		p := processOf(d, lowest, one)
		w.processes = append(w.processes, p)
		for _, bit := range p.writes() {
			if w.drivers[bit] != none {
				return wiring{}, api.ErrTwo
			}
			w.drivers[bit] = k
		}
	}
	return w, api.OK
}

// drivesAll tells whether each bit that has to be driven is.
func (w wiring) drivesAll(signals []api.Signal) bool {
	drivers := w.drivers
	for _, s := range signals {
		if (s.Kind == api.WireK || s.Kind == api.OutK) && slices.Contains(drivers[:s.W], none) {
			return false
		}
		drivers = drivers[s.W:]
	}
	return true
}

// isOfWires tells whether a driver is a process of wires.
func (w wiring) isOfWires(driver int) bool {
	return driver != none && !w.processes[driver].clocked
}

// latches tells whether a process of wires drives a bit that it does not write always.
func (w wiring) latches() bool {
	written := make([]bool, len(w.drivers))
	for _, p := range w.processes {
		for _, bit := range p.always() {
			written[bit] = true
		}
	}
	for bit, driver := range w.drivers {
		if w.isOfWires(driver) && !written[bit] {
			return true
		}
	}
	return false
}

// hangs is of each process on which processes of wires it hangs, each once, rising.
func (w wiring) hangs() [][]int {
	var hangs [][]int
	for _, p := range w.processes {
		var on []int
		for _, bit := range p.reads() {
			if w.isOfWires(w.drivers[bit]) {
				on = append(on, w.drivers[bit])
			}
		}
		slices.Sort(on)
		hangs = append(hangs, slices.Compact(on))
	}
	return hangs
}

// numbers are those of the processes that are clocked, or of those that are not.
func (w wiring) numbers(clocked bool) []int {
	var l []int
	for k, p := range w.processes {
		if p.clocked == clocked {
			l = append(l, k)
		}
	}
	return l
}
