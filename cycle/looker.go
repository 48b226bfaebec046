package cycle

import "filigree/api"

// seen is what is told of values: the outputs, and of each check whether it holds.
type seen struct {
	outs   []uint64
	checks []bool
}

// looker is a player that keeps what is seen, look by look.
type looker struct {
	player
	rows []seen
}

// look is a step that changes nothing.
func (l *looker) look(v []uint64) {
	var row seen
	for _, signal := range l.ofKind(api.OutK) {
		row.outs = append(row.outs, v[signal])
	}
	for _, t := range l.truths {
		row.checks = append(row.checks, t.holds(v))
	}
	l.rows = append(l.rows, row)
}
