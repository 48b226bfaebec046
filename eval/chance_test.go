package eval_test

import (
	"fmt"
	"math"
	"reflect"
	"slices"
	"testing"

	"filigree/api"
	"filigree/bitv"
	"filigree/eval"
	"filigree/sized"
)

// chance is numbers that look like chance, and are the same in each run.
type chance uint64

func (c *chance) below(n int) int {
	*c = *c*6364136223846793005 + 1442695040888963407
	return int(uint64(*c>>33) % uint64(n))
}

// seldom is so once of so many times.
func (c *chance) seldom(times int) bool { return c.below(times) == 0 }

// bits are a number of w bits: all of them 0, or 1, a small number, or any.
func (c *chance) bits(w int) uint64 {
	v := uint64(c.below(1<<31))<<33 ^ uint64(c.below(1<<31))
	return []uint64{0, math.MaxUint64, uint64(c.below(70)), v, v, 1 << c.below(64)}[c.below(6)] & bitv.Mask(w)
}

// width is mostly a small one.
func (c *chance) width() int {
	if c.seldom(5) {
		return 1 + c.below(64)
	}
	return 1 + c.below(9)
}

// maker makes expressions of signals, which are sized; of ten leaves so many are numbers.
type maker struct {
	*chance
	d       api.Flat
	numbers int
}

// maker makes some signals: one of 64 bits, and some more.
func (c *chance) maker() *maker {
	m := &maker{chance: c, numbers: []int{0, 2, 5, 8, 10}[c.below(5)]}
	for k := range 2 + c.below(6) {
		s := api.Signal{Name: fmt.Sprint("s", k), W: c.width(), Kind: 1 + c.below(4)}
		if k == 1 {
			s.W = 64
		}
		m.d.Signals = append(m.d.Signals, s)
	}
	return m
}

func (m *maker) values() []uint64 {
	var v []uint64
	for _, s := range m.d.Signals {
		v = append(v, m.bits(s.W))
	}
	return v
}

func (m *maker) leaf(w int) api.E {
	if m.below(10) < m.numbers {
		return num(w, m.bits(w))
	}
	for {
		signal := m.below(len(m.d.Signals))
		if room := m.d.Signals[signal].W - w; room >= 0 {
			lo := m.below(room + 1)
			return bitsOf(signal, lo+w-1, lo)
		}
	}
}

// e is an expression of w bits, with at most room more nodes one within the other.
func (m *maker) e(w, room int) api.E {
	if room <= 0 || m.seldom(5) {
		return m.leaf(w)
	}
	room--
	if w == 1 && m.seldom(2) {
		return m.truth(room)
	}
	switch m.below(7) {
	case 0:
		return of(api.UnE, api.NotO+m.below(2), w, m.e(w, room))
	case 1:
		return of(api.BinE, api.ShlO+m.below(2), w, m.e(w, room), m.e(m.width(), room))
	case 2:
		return of(api.CondE, 0, w, m.e(1, room), m.e(w, room), m.e(w, room))
	case 3:
		return m.cat(w, room)
	case 4:
		return of(api.ExtE, api.CutO, w, m.e(w+m.below(65-w), room))
	case 5:
		return of(api.ExtE, api.ZextO+m.below(2), w, m.e(1+m.below(w), room))
	}
	return of(api.BinE, api.AndO+m.below(6), w, m.e(w, room), m.e(w, room))
}

// truth is an expression of one bit, whose parts may have more.
func (m *maker) truth(room int) api.E {
	w := m.width()
	switch m.below(5) {
	case 0:
		return of(api.UnE, api.AllO+m.below(3), 1, m.e(w, room))
	case 1:
		return of(api.UnE, api.NoO, 1, m.e(1, room))
	case 2:
		return of(api.BinE, api.BothO+m.below(2), 1, m.e(1, room), m.e(1, room))
	case 3:
		return at(m.below(len(m.d.Signals)), m.e(w, room))
	}
	return of(api.BinE, api.EqO+m.below(6), 1, m.e(w, room), m.e(w, room))
}

func (m *maker) cat(w, room int) api.E {
	e := of(api.CatE, 0, w)
	for left := w; left > 0; {
		part := 1 + m.below(left)
		e.L = append(e.L, m.e(part, room))
		left -= part
	}
	return e
}

// tells wants that all calls tell what the model does.
func tells(t *testing.T, d api.Flat, v []uint64, e api.E) {
	t.Helper()
	if got, err := eval.Eval(d, v, e); err != api.OK || got != modelEval(d, v, e).Uint64() {
		t.Fatalf("%s of %x: %x, error %d, want %x", show(d, e), v, got, err, modelEval(d, v, e))
	}
	if got, err := eval.Fold(d, e); err != api.OK || !reflect.DeepEqual(got, modelFold(d, e)) {
		t.Fatalf("%s: %s, error %d, want %s", show(d, e), show(d, got), err, show(d, modelFold(d, e)))
	}
	if got, err := eval.Needs(d, e); err != api.OK || !slices.Equal(got, modelNeeds(d, e)) {
		t.Fatalf("%s: %d, error %d, want %d", show(d, e), got, err, modelNeeds(d, e))
	}
}

// TestAgainstTheModel: expressions of chance are what the chapter's sentences say.
func TestAgainstTheModel(t *testing.T) {
	c := chance(1)
	kinds := map[int]int{}
	for range 20000 {
		m := c.maker()
		e := m.e(m.width(), c.below(6))
		if err := sized.CheckE(m.d, e); err != api.OK {
			t.Fatalf("%s: error %d", show(m.d, e), err)
		}
		for _, node := range every(&e) {
			kinds[node.Op]++
		}
		tells(t, m.d, m.values(), e)
	}
	for op := api.NumE; op <= api.ExtE; op++ {
		if kinds[op] < 1000 {
			t.Errorf("%d of kind %d", kinds[op], op)
		}
	}
}

// every is all nodes of an expression.
func every(e *api.E) []*api.E {
	l := []*api.E{e}
	for k := range e.L {
		l = append(l, every(&e.L[k])...)
	}
	return l
}

func cloneE(e api.E) api.E {
	e.L = slices.Clone(e.L)
	for k := range e.L {
		e.L[k] = cloneE(e.L[k])
	}
	return e
}

// spoilt is an expression of which a field was changed, wherever.
func (c *chance) spoilt(e api.E) api.E {
	e = cloneE(e)
	nodes := every(&e)
	one := nodes[c.below(len(nodes))]
	n := []int{-1, 0, 1, 2, 3, 4, 5, 8, 9, 14, 26, 27, 31, 34, 64, 65, math.MaxInt, math.MinInt}[c.below(18)]
	switch c.below(8) {
	case 0:
		one.Op = c.below(10)
	case 1:
		one.W = n
	case 2:
		one.V = c.bits(64)
	case 3:
		one.Sig = n
	case 4:
		one.Hi = n
	case 5:
		one.Lo = n
	case 6:
		one.N = n
	case 7:
		one.L = append(one.L[:c.below(len(one.L)+1)], cloneE(e))
	}
	return e
}

// TestSpoiltOnes: what does not fit is ErrArg, and nothing else is.
func TestSpoiltOnes(t *testing.T) {
	c := chance(2)
	found := map[bool]int{}
	for range 20000 {
		m := c.maker()
		e := c.spoilt(m.e(m.width(), c.below(4)))
		v := m.values()
		fits := sized.CheckE(m.d, e) == api.OK
		found[fits]++
		if fits {
			tells(t, m.d, v, e)
		} else {
			refused(t, show(m.d, e), m.d, v, e)
		}
		if k := c.below(len(v)); m.d.Signals[k].W < 64 {
			v[k] |= bitv.Mask(m.d.Signals[k].W) + 1
			if got, err := eval.Eval(m.d, v, e); got != 0 || err != api.ErrArg || eval.Values(m.d, v) != api.ErrArg {
				t.Fatalf("of %x: %d, error %d", v, got, err)
			}
		}
	}
	if found[true] < 500 || found[false] < 10000 {
		t.Errorf("%v", found)
	}
}

// changed is values all of whose bits, but some, are any.
func (m *maker) changed(v []uint64, but []int) []uint64 {
	l := m.values()
	place := 0
	for k, s := range m.d.Signals {
		for bit := range s.W {
			if slices.Contains(but, place) {
				l[k] = l[k]&^(1<<bit) | v[k]&(1<<bit)
			}
			place++
		}
	}
	return l
}

// TestWhatFollows: what is folded is the same number, for all values; it fits, and is folded once; an expression hangs on no bits but those that it needs; one that needs none is folded to a number.
func TestWhatFollows(t *testing.T) {
	c := chance(3)
	found := map[string]int{}
	for range 6000 {
		m := c.maker()
		e := m.e(m.width(), 1+c.below(6))
		folded, err := eval.Fold(m.d, e)
		if err != api.OK || sized.CheckE(m.d, folded) != api.OK {
			t.Fatalf("%s: %s, error %d", show(m.d, e), show(m.d, folded), err)
		}
		if again, err := eval.Fold(m.d, folded); err != api.OK || !sized.SameE(again, folded) {
			t.Fatalf("%s: %s, and then %s, error %d", show(m.d, e), show(m.d, folded), show(m.d, again), err)
		}
		needed, err := eval.Needs(m.d, e)
		fewer, foldedErr := eval.Needs(m.d, folded)
		if err != api.OK || foldedErr != api.OK || len(needed) == 0 && folded.Op != api.NumE {
			t.Fatalf("%s needs %d, error %d; %s", show(m.d, e), needed, err, show(m.d, folded))
		}
		for _, bit := range fewer {
			if !slices.Contains(needed, bit) {
				t.Fatalf("%s needs %d, but %s needs %d", show(m.d, e), needed, show(m.d, folded), fewer)
			}
		}
		if len(fewer) < len(needed) {
			found["fewer"]++
		}
		if folded.Op == api.NumE {
			found["a number"]++
		} else if !sized.SameE(folded, e) {
			found["another one"]++
		}
		for range 4 {
			v := m.values()
			want, err := eval.Eval(m.d, v, e)
			same, foldedErr := eval.Eval(m.d, v, folded)
			other, otherErr := eval.Eval(m.d, m.changed(v, fewer), e)
			if same != want || other != want || err != api.OK || foldedErr != api.OK || otherErr != api.OK {
				t.Fatalf("%s of %x: %x; folded %x; of other bits %x", show(m.d, e), v, want, same, other)
			}
		}
	}
	for _, what := range []string{"fewer", "a number", "another one"} {
		if found[what] < 300 {
			t.Errorf("%v", found)
		}
	}
}
