package madeup

import "strconv"

// piece is bits of a signal, which one process may drive, and another one read.
type piece struct {
	name   string
	hi, lo int
}

func (p piece) width() int { return p.hi - p.lo + 1 }

func (p piece) text() string {
	return p.name + "[" + strconv.Itoa(p.hi) + ":" + strconv.Itoa(p.lo) + "]"
}

// term is an expression as a text, and its width.
type term struct {
	text string
	w    int
}

// author writes a module: known are the pieces that what is written next may read, sign is how it assigns.
type author struct {
	*Chance
	widths map[string]int
	known  []piece
	sign   string
}

// isKnown tells whether all of a signal may be read.
func (a *author) isKnown(name string) bool {
	bits := 0
	for _, p := range a.known {
		if p.name == name {
			bits += p.width()
		}
	}
	return bits == a.widths[name]
}

// part is bits of what may be read, or a number.
func (a *author) part() term {
	if a.Seldom(8) {
		return a.number(1 + a.Below(5))
	}
	p := a.known[a.Below(len(a.known))]
	if a.Seldom(6) && a.isKnown(p.name) {
		return term{p.name + "[" + a.part().text + "]", 1}
	}
	if p.width() > 1 && a.Seldom(2) {
		p.lo += a.Below(p.width())
		p.hi = p.lo + a.Below(p.width())
	}
	return term{p.text(), p.width()}
}

func (a *author) number(w int) term {
	return term{strconv.Itoa(w) + "'h" + strconv.FormatUint(a.Bits(w), 16), w}
}

// fit is a term, made as wide as it has to be.
func (a *author) fit(t term, w int) string {
	how := "trunc"
	switch {
	case t.w == w:
		return t.text
	case t.w < w:
		how = []string{"zext", "zext", "sext"}[a.Below(3)]
	}
	return how + "(" + strconv.Itoa(w) + "," + t.text + ")"
}

// value is an expression of so many bits.
func (a *author) value(w int) string {
	first, second := a.part(), a.part()
	switch a.Below(9) {
	case 0, 1:
		return a.fit(first, w)
	case 2:
		return []string{"~", "-"}[a.Below(2)] + a.fit(first, w)
	case 3:
		return "(" + a.truth() + "?" + a.fit(first, w) + ":" + a.fit(second, w) + ")"
	case 4:
		return "(" + a.fit(first, w) + []string{"<<", ">>"}[a.Below(2)] + second.text + ")"
	case 5:
		if w > 1 {
			low := 1 + a.Below(w-1)
			return "{" + a.fit(first, w-low) + "," + a.fit(second, low) + "}"
		}
	case 6:
		if w == 1 {
			return "(" + a.truth() + ")"
		}
	}
	sign := []string{"+", "-", "&", "|", "^", "*"}[a.Below(6)]
	return "(" + a.fit(first, w) + sign + a.fit(second, w) + ")"
}

// truth is an expression of one bit.
func (a *author) truth() string {
	first, second := a.part(), a.part()
	switch a.Below(4) {
	case 0:
		sign := []string{"==", "!=", "<", "<=", ">", ">="}[a.Below(6)]
		return first.text + sign + a.fit(second, first.w)
	case 1:
		return "|" + first.text + []string{"&&", "||"}[a.Below(2)] + "!^" + second.text
	}
	return []string{"|", "^", "!&", "!|"}[a.Below(4)] + first.text
}
