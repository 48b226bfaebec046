package lint_test

import (
	"fmt"
	"slices"
	"strings"
	"testing"

	"filigree/api"
)

// chance is numbers that look like chance, and are the same in each run.
type chance uint64

func (c *chance) below(n int) int {
	*c = *c*6364136223846793005 + 1442695040888963407
	return int(uint64(*c>>33) % uint64(n))
}

// seldom is so once of so many times.
func (c *chance) seldom(times int) bool { return c.below(times) == 0 }

func shuffled[N any](c *chance, l []N) []N {
	l = slices.Clone(l)
	for k := range l {
		n := k + c.below(len(l)-k)
		l[k], l[n] = l[n], l[k]
	}
	return l
}

// piece is bits of a signal, which one process may drive, and another one read.
type piece struct {
	name   string
	hi, lo int
}

func (p piece) width() int     { return p.hi - p.lo + 1 }
func (p piece) String() string { return fmt.Sprintf("%s[%d:%d]", p.name, p.hi, p.lo) }

// author writes modules of chance: known are the pieces that what is written next may read.
type author struct {
	*chance
	widths map[string]int
	known  []piece
	sign   string
}

// signals tells some of a kind, in pieces.
func (a *author) signals(text *strings.Builder, kind string, most int) []piece {
	var l []piece
	for k := range 1 + a.below(most) {
		name, w := fmt.Sprint(kind[:1], k), 1+a.below(6)
		if a.seldom(12) {
			w = 64
		}
		fmt.Fprintf(text, map[string]string{"wire": "wire %s:%d; ", "reg": "reg %s:%d=1; ", "in": "in %s:%d,", "out": "out %s:%d,"}[kind], name, w)
		a.widths[name] = w
		for lo := 0; lo < w; {
			hi := min(w-1, lo+a.below(w))
			l = append(l, piece{name, hi, lo})
			lo = hi + 1
		}
	}
	return l
}

// isKnown tells whether all of a signal may be read.
func (a *author) isKnown(name string) bool {
	bits := 0
	for _, p := range a.known {
		if p.name == name {
			bits += p.width()
		}
	}
	return bits == a.widths[name]
}

// part is bits of what may be read, or a number.
func (a *author) part() string {
	if a.seldom(8) {
		return fmt.Sprintf("%d'd%d", 1+a.below(5), a.below(2))
	}
	p := a.known[a.below(len(a.known))]
	if a.seldom(6) && a.isKnown(p.name) {
		return fmt.Sprintf("%s[%s]", p.name, a.part())
	}
	if p.width() > 1 && a.seldom(2) {
		p.lo += a.below(p.width())
		p.hi = p.lo + a.below(p.width())
	}
	return p.String()
}

// value is an expression of so many bits.
func (a *author) value(w int) string {
	if a.seldom(2) {
		return fmt.Sprintf("trunc(%d,zext(64,%s))", w, a.part())
	}
	return fmt.Sprintf("trunc(%d,zext(64,%s)+zext(64,%s))", w, a.part(), a.part())
}

func (a *author) truth() string {
	return []string{"|", "^", "!&", "!|"}[a.below(4)] + a.part()
}

func (a *author) set(p piece) string {
	return fmt.Sprintf("%v%s%s;", p, a.sign, a.value(p.width()))
}

// written is statements that write a piece on each way.
func (a *author) written(p piece, room int) string {
	if room == 0 {
		return a.set(p)
	}
	room--
	switch a.below(7) {
	case 0:
		return fmt.Sprintf("if(%s){%s}else{%s}", a.truth(), a.written(p, room), a.written(p, room))
	case 1:
		return fmt.Sprintf("case(trunc(2,zext(64,%s))){0:{%s} 1,2:{%s} else:{%s}}", a.part(), a.written(p, room), a.written(p, room), a.written(p, room))
	case 2:
		return fmt.Sprintf("%s if(%s){%s}", a.written(p, room), a.truth(), a.set(p))
	case 3:
		return fmt.Sprintf("{%s}", a.written(p, room))
	case 4:
		if p.width() > 1 {
			low, high := p, p
			low.hi = p.lo + a.below(p.width()-1)
			high.lo = low.hi + 1
			return a.written(high, room) + a.written(low, room)
		}
	}
	return a.set(p)
}

// mayBeWritten is statements that write a piece, now and then not on each way.
func (a *author) mayBeWritten(p piece) string {
	if a.seldom(2) {
		return fmt.Sprintf("if(%s){%s}", a.truth(), a.written(p, 1))
	}
	return a.written(p, 2)
}

// faults are what may be wrong with a module: that a piece is driven twice, not, or not always, or that processes hang on each other.
type faults struct {
	two, none, latch, ring bool
}

// combs are processes of wires that drive the pieces: each reads what is known, and what those ahead of it drive.
func (a *author) combs(pieces []piece, f faults) []string {
	var l []string
	all, spoilt := slices.Concat(a.known, pieces), shuffled(a.chance, slices.Concat(pieces, pieces, pieces))
	for pieces = shuffled(a.chance, pieces); len(pieces) > 0; {
		mine, known := pieces[:min(len(pieces), 1+a.below(3))], a.known
		if f.ring && a.seldom(2) {
			a.known = all
		}
		text := ""
		for _, p := range mine {
			switch {
			case f.none && p == spoilt[0]:
			case f.latch && p == spoilt[1]:
				text += a.mayBeWritten(p)
			default:
				text += a.written(p, 2)
			}
		}
		l = append(l, "comb{"+text+"} ")
		a.known, pieces = slices.Concat(known, mine), pieces[len(mine):]
		if a.seldom(9) {
			l = append(l, fmt.Sprintf("comb{if(%s){}} ", a.truth()))
		}
	}
	if f.two && a.seldom(2) {
		l = append(l, "comb{"+a.mayBeWritten(spoilt[2])+"} ")
	}
	return l
}

// ticks are processes that are clocked, and drive some of the pieces; they may read all.
func (a *author) ticks(pieces []piece, f faults) []string {
	var l []string
	for _, p := range pieces {
		if !a.seldom(4) {
			l = append(l, "on tick{"+a.mayBeWritten(p)+"} ")
		}
		if f.two && a.seldom(2) {
			l = append(l, "on tick{"+a.mayBeWritten(p)+"} ")
		}
	}
	return l
}

// module is one that may have faults.
func (c *chance) module(f faults) string {
	a := &author{chance: c, widths: map[string]int{}, sign: "="}
	head, body := &strings.Builder{}, &strings.Builder{}
	ins := a.signals(head, "in", 3)
	outs := a.signals(head, "out", 2)
	regs := a.signals(body, "reg", 2)
	wires := slices.Concat(outs, a.signals(body, "wire", 4))
	a.known = slices.Concat(ins, regs)
	processes := a.combs(wires, f)
	a.sign = "<="
	processes = append(processes, a.ticks(regs, f)...)
	if c.seldom(3) {
		processes = append(processes, "check k:"+a.truth()+"; ")
	}
	ports := strings.TrimSuffix(head.String(), ",")
	return "module m(" + ports + "){" + body.String() + strings.Join(shuffled(c, processes), "") + "}"
}

// TestAgainstTheModel: of designs of chance all calls tell what the chapter's sentences say.
func TestAgainstTheModel(t *testing.T) {
	c := chance(1)
	found := map[api.Errno]int{}
	for k := range 2000 {
		f := faults{two: c.seldom(8), none: c.seldom(8), latch: c.seldom(4), ring: c.seldom(3)}
		text := c.module(f)
		d := whole(t, text)
		m := modelOf(d)
		found[m.fault]++
		if m.fault != api.OK {
			refused(t, text, d, m.fault)
		} else {
			isClean(t, text, d, m)
		}
		if m.fault != api.ErrTwo {
			tells(t, text, "Drivers", d, m.drivers)
		}
		if t.Failed() {
			t.Fatalf("%d: %v", k, brief{d})
		}
	}
	for _, e := range []api.Errno{api.OK, api.ErrTwo, api.ErrNone, api.ErrLatch, api.ErrLoop} {
		if found[e] < 100 {
			t.Errorf("error %d: %d times", e, found[e])
		}
	}
}
