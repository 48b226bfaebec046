package madeup

import (
	"slices"
	"strconv"
	"strings"

	"filigree/api"
	"filigree/elab"
	"filigree/parse"
	"filigree/sized"
)

// Faults are what may be wrong with a module, here or there: that bits are driven twice, or not, or not always, or hang on each other.
type Faults struct {
	Two, None, Latch, Ring bool
}

// Design is the one that a text's module m says, sized, or the first error.
func Design(text string) (api.Flat, api.Errno) {
	f, _, e := parse.Parse([]byte(text))
	if e != api.OK {
		return api.Flat{}, e
	}
	d, e := elab.Elab(f, "m", nil)
	if e != api.OK {
		return api.Flat{}, e
	}
	return sized.Size(d)
}

// Module is the text of a module m that is clean, unless it may have faults.
func (c *Chance) Module(f Faults) string {
	a := &author{Chance: c, widths: map[string]int{}, sign: "="}
	head, body := &strings.Builder{}, &strings.Builder{}
	ins := a.signals(head, "in", 3)
	outs := a.signals(head, "out", 2)
	regs := a.signals(body, "reg", 2)
	wires := slices.Concat(outs, a.signals(body, "wire", 4))
	a.known = slices.Concat(ins, regs)
	items := a.combs(wires, f)
	for k := range a.Below(3) {
		items = append(items, "check k"+strconv.Itoa(k)+":"+a.truth()+"; ")
	}
	a.sign = "<="
	items = append(items, a.ticks(regs, f)...)
	ports := strings.TrimSuffix(head.String(), ",")
	return "module m(" + ports + "){" + body.String() + strings.Join(Shuffled(c, items), "") + "}"
}

// signals tells some of a kind, and which pieces they have.
func (a *author) signals(text *strings.Builder, kind string, most int) []piece {
	var l []piece
	for k := range 1 + a.Below(most) {
		name, w := kind[:1]+strconv.Itoa(k), 1+a.Below(6)
		if a.Seldom(12) {
			w = 64
		}
		text.WriteString(a.signal(kind, name, w))
		a.widths[name] = w
		for lo := 0; lo < w; {
			hi := min(w-1, lo+a.Below(w))
			l = append(l, piece{name, hi, lo})
			lo = hi + 1
		}
	}
	return l
}

func (a *author) signal(kind, name string, w int) string {
	told := kind + " " + name + ":" + strconv.Itoa(w)
	switch kind {
	case "wire":
		return told + "; "
	case "reg":
		return told + "=" + a.number(w).text + "; "
	}
	return told + ","
}

// set is a statement that writes a piece.
func (a *author) set(p piece) string { return p.text() + a.sign + a.value(p.width()) + ";" }

// written is statements that write a piece on each way.
func (a *author) written(p piece, room int) string {
	if room == 0 {
		return a.set(p)
	}
	room--
	switch a.Below(7) {
	case 0:
		return "if(" + a.truth() + "){" + a.written(p, room) + "}else{" + a.written(p, room) + "}"
	case 1:
		which := a.fit(a.part(), 2)
		return "case(" + which + "){0:{" + a.written(p, room) + "} 1,2:{" + a.written(p, room) + "} else:{" + a.written(p, room) + "}}"
	case 2:
		return a.written(p, room) + "if(" + a.truth() + "){" + a.set(p) + "}"
	case 3:
		return "{" + a.written(p, room) + "}"
	case 4:
		if p.width() > 1 {
			low, high := p, p
			low.hi = p.lo + a.Below(p.width()-1)
			high.lo = low.hi + 1
			return a.written(high, room) + a.written(low, room)
		}
	}
	return a.set(p)
}

// mayBeWritten is statements that write a piece, now and then not on each way.
func (a *author) mayBeWritten(p piece) string {
	if a.Seldom(2) {
		return "if(" + a.truth() + "){" + a.written(p, 1) + "}"
	}
	return a.written(p, 2)
}

// combs are processes of wires that drive the pieces: each reads what is known, and what those ahead of it drive.
func (a *author) combs(pieces []piece, f Faults) []string {
	var l []string
	all, spoilt := slices.Concat(a.known, pieces), Shuffled(a.Chance, slices.Concat(pieces, pieces, pieces))
	for pieces = Shuffled(a.Chance, pieces); len(pieces) > 0; {
		mine, known := pieces[:min(len(pieces), 1+a.Below(3))], a.known
		if f.Ring && a.Seldom(2) {
			a.known = all
		}
		text := ""
		for _, p := range mine {
			switch {
			case f.None && p == spoilt[0]:
			case f.Latch && p == spoilt[1]:
				text += a.mayBeWritten(p)
			default:
				text += a.written(p, 2)
			}
		}
		l = append(l, "comb{"+text+"} ")
		a.known, pieces = slices.Concat(known, mine), pieces[len(mine):]
		if a.Seldom(9) {
			l = append(l, "comb{if("+a.truth()+"){}} ")
		}
	}
	if f.Two && a.Seldom(2) {
		l = append(l, "comb{"+a.mayBeWritten(spoilt[2])+"} ")
	}
	return l
}

// ticks are processes that are clocked, and drive some of the pieces; they may read all.
func (a *author) ticks(pieces []piece, f Faults) []string {
	var l []string
	for _, p := range pieces {
		if !a.Seldom(4) {
			l = append(l, "on tick{"+a.mayBeWritten(p)+"} ")
		}
		if f.Two && a.Seldom(2) {
			l = append(l, "on tick{"+a.mayBeWritten(p)+"} ")
		}
	}
	return l
}
