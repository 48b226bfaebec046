package sized_test

import (
	"fmt"
	"math"
	"reflect"
	"testing"

	"filigree/api"
	"filigree/sized"
)

// chance is numbers that look like chance, and are the same in each run.
type chance uint64

func (c *chance) below(n int) int {
	*c = *c*6364136223846793005 + 1442695040888963407
	return int(uint64(*c>>33) % uint64(n))
}

// seldom is so once of so many times.
func (c *chance) seldom(times int) bool { return c.below(times) == 0 }

// maker makes expressions and statements of signals. What it makes mostly fits; once of so many times (never, if that is 0) something does not.
type maker struct {
	*chance
	signals []api.Signal
	bad     int
}

func (m *maker) wrong() bool { return m.bad > 0 && m.seldom(m.bad) }

// width is mostly a small one.
func (m *maker) width() int {
	if m.seldom(5) {
		return 1 + m.below(64)
	}
	return 1 + m.below(9)
}

func (m *maker) number(w int) api.E {
	v := uint64(m.below(1<<31))<<33 ^ uint64(m.below(1<<31))
	if w < 64 {
		v &= 1<<w - 1
	}
	if m.wrong() {
		return number(0, v|1<<(w%64))
	}
	if m.seldom(3) {
		return number(w, v)
	}
	return number(0, v)
}

// bits are those of a signal that is wide enough; there is one of 64 bits.
func (m *maker) bits(w int) api.E {
	for {
		signal := m.below(len(m.signals))
		if room := m.signals[signal].W - w; room >= 0 {
			lo := m.below(room + 1)
			return bitsOf(signal, lo+w-1, lo)
		}
	}
}

func (m *maker) es(n, w, room int) []api.E {
	var l []api.E
	for range n {
		l = append(l, m.e(w, room))
	}
	return l
}

// e is an expression that may be sized to w.
func (m *maker) e(w, room int) api.E {
	if m.wrong() {
		w = max(1, min(64, w-2+m.below(5)))
	}
	if room <= 0 || m.seldom(4) {
		if m.seldom(2) {
			return m.number(w)
		}
		return m.bits(w)
	}
	room--
	if w == 1 && m.seldom(2) {
		return m.truth(room)
	}
	switch m.below(7) {
	case 0:
		return of(api.UnE, api.NotO+m.below(2), m.e(w, room))
	case 1:
		return of(api.BinE, api.ShlO+m.below(2), m.e(w, room), m.e(m.width(), room))
	case 2:
		return of(api.CondE, 0, m.e(1, room), m.e(w, room), m.e(w, room))
	case 3:
		return m.cat(w, room)
	case 4:
		return m.extended(w, room)
	}
	return of(api.BinE, api.AndO+m.below(6), m.es(2, w, room)...)
}

// truth is an expression of one bit, of which parts are not.
func (m *maker) truth(room int) api.E {
	w := m.width()
	switch m.below(5) {
	case 0:
		return of(api.UnE, api.AllO+m.below(3), m.e(w, room))
	case 1:
		return of(api.UnE, api.NoO, m.e(1, room))
	case 2:
		return of(api.BinE, api.BothO+m.below(2), m.es(2, 1, room)...)
	case 3:
		return api.E{Op: api.IndexE, Sig: m.below(len(m.signals)), L: m.es(1, w, room)}
	}
	return of(api.BinE, api.EqO+m.below(6), m.es(2, w, room)...)
}

// cat is parts that are w wide together; they are made again until all of them have own widths, if that is soon.
func (m *maker) cat(w, room int) api.E {
	e := of(api.CatE, 0)
	for left := w; left > 0; {
		part := 1 + m.below(left)
		for range 8 {
			one := m.e(part, room)
			if _, ok := modelOwn(one); ok {
				e.L = append(e.L, one)
				break
			}
		}
		left -= part
	}
	if len(e.L) == 0 || m.wrong() {
		e.L = append(e.L, m.bits(1+m.below(64)))
	}
	return e
}

func (m *maker) extended(w, room int) api.E {
	if m.seldom(2) {
		return extended(api.CutO, w, m.e(w+m.below(65-w), room))
	}
	return extended(api.ZextO+m.below(2), w, m.e(1+m.below(w), room))
}

func (m *maker) block(clocked bool, room int) api.T {
	return api.T{Op: api.BlockT, L: m.statements(clocked, room-1)}
}

func (m *maker) statements(clocked bool, room int) []api.T {
	var l []api.T
	for range m.below(4) {
		l = append(l, m.statement(clocked, room))
	}
	return l
}

func (m *maker) statement(clocked bool, room int) api.T {
	if room > 0 {
		switch m.below(6) {
		case 0:
			return api.T{Op: api.IfT, E: m.es(1, 1, 2), L: []api.T{m.block(clocked, room), m.block(clocked, room)}}
		case 1:
			w := m.width()
			t := api.T{Op: api.CaseT, E: []api.E{m.bits(w)}}
			if m.seldom(3) {
				t.E = m.es(1, w, 2)
			}
			for range m.below(3) {
				labels := []api.E{m.number(w), m.number(w)}
				t.L = append(t.L, api.T{Op: api.ArmT, E: labels[m.below(2):], L: m.statements(clocked, room-1)})
			}
			t.L = append(t.L, api.T{Op: api.ArmT, L: m.statements(clocked, room-1)})
			return t
		case 2:
			return m.block(clocked, room)
		}
	}
	return m.assignment(clocked)
}

func (m *maker) assignment(clocked bool) api.T {
	for {
		signal := m.below(len(m.signals))
		kind := m.signals[signal].Kind
		if clocked == (kind == api.RegK) && kind != api.InK || m.wrong() {
			w := 1 + m.below(m.signals[signal].W)
			lo := m.below(m.signals[signal].W - w + 1)
			return api.T{Op: api.AssignT, Sig: signal, Hi: lo + w - 1, Lo: lo, E: m.es(1, w, 3)}
		}
	}
}

// maker makes some signals: one of each kind, and some more.
func (c *chance) maker() *maker {
	m := &maker{chance: c, bad: []int{0, 0, 0, 20, 100, 400}[c.below(6)]}
	for k := range 4 + c.below(5) {
		s := api.Signal{Name: fmt.Sprint("s", k), W: m.width(), Kind: 1 + k%4}
		if k == 0 {
			s.W = 64
		}
		if s.Kind == api.RegK {
			s.Init = m.number(s.W).V
		}
		m.signals = append(m.signals, s)
	}
	return m
}

func (c *chance) design() api.Flat {
	m := c.maker()
	d := api.Flat{Signals: m.signals}
	for range c.below(5) {
		clocked := c.seldom(2)
		d.Procs = append(d.Procs, api.Proc{Clocked: clocked, L: m.statements(clocked, 3)})
	}
	for k := range c.below(3) {
		d.Checks = append(d.Checks, api.Check{Name: fmt.Sprint("c", k), E: m.e(1, 3)})
	}
	return d
}

// change puts something else into a field; it may be what stood there.
func (c *chance) change(field reflect.Value) {
	switch field.Kind() {
	case reflect.Int:
		numbers := []int{0, 0, 1, 2, 3, 4, 5, 6, 7, 8, 9, 11, 16, 26, 27, 31, 33, 34, 64, 65, -1, 100, math.MaxInt, math.MinInt}
		field.SetInt(int64(numbers[c.below(len(numbers))]))
	case reflect.Uint64:
		numbers := []uint64{0, 1, 2, 255, 1 << 31, 1 << 32, 1 << 63, math.MaxUint64}
		field.SetUint(numbers[c.below(len(numbers))])
	case reflect.String:
		field.SetString([]string{"", "s0", "s1", "new"}[c.below(4)])
	case reflect.Bool:
		field.SetBool(!field.Bool())
	case reflect.Slice:
		n := field.Len()
		switch c.below(4) {
		case 0:
			field.Set(reflect.Append(field, reflect.Zero(field.Type().Elem())))
		case 1:
			field.Set(reflect.MakeSlice(field.Type(), 0, 1))
		case 2:
			if n > 0 {
				field.Set(reflect.Append(field, cloneValue(field.Index(c.below(n)))))
			}
		case 3:
			if n > 0 {
				field.Set(field.Slice(c.below(2), n-c.below(2)*(n/2)))
			}
		}
	}
}

// spoil changes a field or two, once of so many times.
func spoil[N any](c *chance, times int, n N) N {
	n = clone(n)
	for c.seldom(times) {
		if l := placesOf(&n); len(l) > 0 {
			c.change(l[c.below(len(l))])
		}
	}
	return n
}

// findings count what was told.
type findings map[api.Errno]int

func (f findings) want(t *testing.T, least int, l ...api.Errno) {
	t.Helper()
	for _, e := range l {
		if f[e] < least {
			t.Errorf("too few of error %d: %v", e, f)
		}
	}
}

// TestExpressionsOfChance: Expr and CheckE tell what the model does, of what was told, too.
func TestExpressionsOfChance(t *testing.T) {
	c := chance(1)
	found, checked := findings{}, findings{}
	for range 30000 {
		m := c.maker()
		w := m.width()
		e := spoil(&c, 8, m.e(w, 1+c.below(5)))
		d := spoil(&c, 200, api.Flat{Signals: m.signals})
		if c.seldom(4) {
			w = []int{0, 0, 0, 1, 64, 65, -1, 32}[c.below(8)]
		}
		want, fault := modelExpr(d, e, w)
		got, err := sized.Expr(d, e, w)
		if err != fault || !reflect.DeepEqual(clone(got), clone(want)) {
			t.Fatalf("%s to %d of %+v:\n got %s, error %d\nwant %s, error %d", showE(d, e), w, d.Signals, showE(d, got), err, showE(d, want), fault)
		}
		found[err]++
		if err == api.OK {
			e = spoil(&c, 3, got)
		}
		if got, want := sized.CheckE(d, e), modelCheckE(d, e); got != want {
			t.Fatalf("CheckE of %s of %+v: error %d, want %d", showE(d, e), d.Signals, got, want)
		} else {
			checked[got]++
		}
	}
	found.want(t, 50, api.ErrArg, api.ErrSize, api.ErrBit, api.ErrFit)
	found.want(t, 12000, api.OK)
	checked.want(t, 50, api.ErrArg, api.ErrSize, api.ErrBit, api.ErrFit)
	checked.want(t, 10000, api.OK)
}

// TestDesignsOfChance: Size and Check tell what the model does, of what was told, too.
func TestDesignsOfChance(t *testing.T) {
	c := chance(2)
	found, checked := findings{}, findings{}
	for range 4000 {
		d := spoil(&c, 8, c.design())
		want, fault := modelDesign(d)
		got, err := sized.Size(d)
		if err != fault || !reflect.DeepEqual(clone(got), clone(want)) {
			t.Fatalf("%s of %+v:\n got %s, error %d\nwant %s, error %d", show(d), d.Signals, show(got), err, show(want), fault)
		}
		found[err]++
		if err == api.OK {
			d = spoil(&c, 3, got)
		}
		if got, want := sized.Check(d), modelCheck(d); got != want {
			t.Fatalf("Check of %s of %+v: error %d, want %d", show(d), d.Signals, got, want)
		} else {
			checked[got]++
		}
	}
	found.want(t, 20, api.ErrArg, api.ErrSize, api.ErrBit, api.ErrFit, api.ErrRole)
	found.want(t, 1, api.ErrBound)
	found.want(t, 1500, api.OK)
	checked.want(t, 10, api.ErrArg, api.ErrSize, api.ErrBit, api.ErrFit, api.ErrRole)
	checked.want(t, 700, api.OK)
}

// TestSizedOnce: what is sized is sized once, it and all its parts.
func TestSizedOnce(t *testing.T) {
	c := chance(3)
	designs, nodes := 0, 0
	var expression func(d api.Flat, e api.E)
	expression = func(d api.Flat, e api.E) {
		nodes++
		for _, want := range []int{e.W, 0} {
			if got, err := sized.Expr(d, e, want); err != api.OK || !modelSame(got, e) {
				t.Fatalf("%s to %d: %s, error %d", showE(d, e), want, showE(d, got), err)
			}
		}
		if err := sized.CheckE(d, e); err != api.OK {
			t.Fatalf("%s: error %d", showE(d, e), err)
		}
		for _, part := range e.L {
			expression(d, part)
		}
	}
	var statements func(d api.Flat, l []api.T)
	statements = func(d api.Flat, l []api.T) {
		for _, s := range l {
			for _, e := range s.E {
				expression(d, e)
			}
			statements(d, s.L)
		}
	}
	for range 1500 {
		d, err := sized.Size(c.design())
		if err != api.OK {
			continue
		}
		designs++
		if got, err := sized.Size(d); err != api.OK || !modelSame(got, d) || !sized.Same(got, d) || sized.Check(d) != api.OK {
			t.Fatalf("%s: %s, error %d", show(d), show(got), err)
		}
		for _, p := range d.Procs {
			statements(d, p.L)
		}
		for _, check := range d.Checks {
			expression(d, check.E)
		}
	}
	if designs < 500 || nodes < 10000 {
		t.Errorf("%d designs, %d nodes", designs, nodes)
	}
}

// TestSameOfChance holds SameE and Same against lists that are compared by reflection.
func TestSameOfChance(t *testing.T) {
	c := chance(4)
	for range 2000 {
		d := c.design()
		sames(t, true, sized.Same, d, clone(d))
		other := spoil(&c, 2, d)
		sames(t, modelSame(d, other), sized.Same, d, other)
		e := c.maker().e(8, 4)
		changed := spoil(&c, 2, e)
		sames(t, modelSame(e, changed), sized.SameE, e, changed)
	}
}
