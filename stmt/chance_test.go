package stmt_test

import (
	"fmt"
	"math"
	"reflect"
	"slices"
	"testing"

	"filigree/api"
	"filigree/bitv"
	"filigree/sized"
	"filigree/stmt"
)

// chance is numbers that look like chance, and are the same in each run.
type chance uint64

func (c *chance) below(n int) int {
	*c = *c*6364136223846793005 + 1442695040888963407
	return int(uint64(*c>>33) % uint64(n))
}

// seldom is so once of so many times.
func (c *chance) seldom(times int) bool { return c.below(times) == 0 }

// bits are a number of w bits: all of them 0, or 1, a small number, or any.
func (c *chance) bits(w int) uint64 {
	v := uint64(c.below(1<<31))<<33 ^ uint64(c.below(1<<31))
	return []uint64{0, math.MaxUint64, uint64(c.below(4)), v, v, 1 << c.below(64)}[c.below(6)] & bitv.Mask(w)
}

// width is mostly a small one.
func (c *chance) width() int {
	if c.seldom(5) {
		return 1 + c.below(64)
	}
	return 1 + c.below(5)
}

// maker makes designs that are sized; driven are the signals that its processes of wires, and those that are clocked, may drive.
type maker struct {
	*chance
	d      api.Flat
	driven map[bool][]int
}

// maker makes some signals: one of each kind at least, one of 64 bits, and some more.
func (c *chance) maker() *maker {
	m := &maker{chance: c, driven: map[bool][]int{}}
	for k := range 4 + c.below(5) {
		s := api.Signal{Name: fmt.Sprint("s", k), W: c.width(), Kind: 1 + k%4}
		if k == 0 || c.seldom(9) {
			s.W = 64
		}
		if s.Kind == api.RegK {
			s.Init = c.bits(s.W)
		}
		if s.Kind != api.InK {
			m.driven[s.Kind == api.RegK] = append(m.driven[s.Kind == api.RegK], k)
		}
		m.d.Signals = append(m.d.Signals, s)
	}
	return m
}

// design makes processes, one at least.
func (c *chance) design() *maker {
	m := c.maker()
	for range 1 + c.below(4) {
		clocked := c.seldom(2)
		m.d.Procs = append(m.d.Procs, api.Proc{Clocked: clocked, L: m.statements(clocked, 3)})
	}
	for k := range c.below(3) {
		m.d.Checks = append(m.d.Checks, api.Check{Name: fmt.Sprint("c", k), E: m.e(1, 2)})
	}
	return m
}

func (m *maker) values() []uint64 {
	var v []uint64
	for _, s := range m.d.Signals {
		v = append(v, m.bits(s.W))
	}
	return v
}

func (m *maker) signal(w int) api.E {
	for {
		signal := m.below(len(m.d.Signals))
		if room := m.d.Signals[signal].W - w; room >= 0 {
			lo := m.below(room + 1)
			return bitsOf(signal, lo+w-1, lo)
		}
	}
}

// e is an expression of w bits, with at most room more nodes one within the other.
func (m *maker) e(w, room int) api.E {
	if room <= 0 || m.seldom(3) {
		if m.seldom(4) {
			return num(w, m.bits(w))
		}
		return m.signal(w)
	}
	room--
	if w == 1 && m.seldom(2) {
		return m.truth(room)
	}
	switch m.below(5) {
	case 0:
		return of(api.UnE, api.NotO+m.below(2), w, m.e(w, room))
	case 1:
		return of(api.CondE, 0, w, m.e(1, room), m.e(w, room), m.e(w, room))
	case 2:
		return of(api.ExtE, api.CutO, w, m.e(w+m.below(65-w), room))
	case 3:
		return of(api.ExtE, api.ZextO+m.below(2), w, m.e(1+m.below(w), room))
	}
	return of(api.BinE, api.AndO+m.below(6), w, m.e(w, room), m.e(w, room))
}

// truth is an expression of one bit, whose parts may have more.
func (m *maker) truth(room int) api.E {
	w := m.width()
	switch m.below(4) {
	case 0:
		return of(api.UnE, api.AllO+m.below(3), 1, m.e(w, room))
	case 1:
		return of(api.BinE, api.BothO+m.below(2), 1, m.e(1, room), m.e(1, room))
	case 2:
		return at(m.below(len(m.d.Signals)), m.e(w, room))
	}
	return of(api.BinE, api.EqO+m.below(6), 1, m.e(w, room), m.e(w, room))
}

func (m *maker) statements(clocked bool, room int) []api.T {
	var l []api.T
	for range m.below(4) {
		l = append(l, m.statement(clocked, room))
	}
	return l
}

func (m *maker) statement(clocked bool, room int) api.T {
	if room > 0 {
		room--
		switch m.below(6) {
		case 0, 1:
			return choice(m.e(1, 2), block(m.statements(clocked, room)...), block(m.statements(clocked, room)...))
		case 2:
			return m.cases(clocked, room)
		case 3:
			return block(m.statements(clocked, room)...)
		}
	}
	signal := m.driven[clocked][m.below(len(m.driven[clocked]))]
	w := 1 + m.below(m.d.Signals[signal].W)
	lo := m.below(m.d.Signals[signal].W - w + 1)
	if m.seldom(2) {
		w, lo = m.d.Signals[signal].W, 0
	}
	return set(signal, lo+w-1, lo, m.e(w, 3))
}

// cases is mostly one of few bits, so that an arm's label is met, now and then that of several arms.
func (m *maker) cases(clocked bool, room int) api.T {
	w := m.width()
	t := cases(m.e(w, 2))
	for range m.below(4) {
		var labels []api.E
		for range 1 + m.below(3) {
			labels = append(labels, num(w, m.bits(w)))
		}
		t.L = append(t.L, arm(labels, m.statements(clocked, room)...))
	}
	t.L = append(t.L, arm(nil, m.statements(clocked, room)...))
	return t
}

// asModel wants that all calls tell what the model does.
func asModel(t *testing.T, d api.Flat, v []uint64, p int) {
	t.Helper()
	if got, err := stmt.Run(d, v, p); err != api.OK || !slices.Equal(got, modelRun(d, v, p)) {
		t.Fatalf("%s of %x: %x, error %d, want %x", brief{d.Procs[p]}, v, got, err, modelRun(d, v, p))
	}
	tells(t, brief{d.Procs[p]}, stmt.Reads, d, p, modelReads(d, p))
	tells(t, brief{d.Procs[p]}, stmt.Writes, d, p, modelWrites(d, p))
	tells(t, brief{d.Procs[p]}, stmt.Always, d, p, modelAlways(d, p))
	total := place(d, len(d.Signals), 0)
	if got, err := stmt.Bits(d); err != api.OK || len(got) != len(d.Signals)+1 || got[len(d.Signals)] != total {
		t.Fatalf("%s: %d, error %d, want %d in all", brief{d.Signals}, got, err, total)
	} else {
		for k := range d.Signals {
			if got[k] != place(d, k, 0) {
				t.Fatalf("%s: %d, want %d of signal %d", brief{d.Signals}, got, place(d, k, 0), k)
			}
		}
	}
}

// TestAgainstTheModel: processes of chance are what the chapter's sentences say.
func TestAgainstTheModel(t *testing.T) {
	c := chance(1)
	kinds := map[int]int{}
	found := map[string]int{}
	for range 2000 {
		m := c.design()
		if err := sized.Check(m.d); err != api.OK {
			t.Fatalf("%s: error %d", brief{m.d}, err)
		}
		v := m.values()
		for p := range m.d.Procs {
			asModel(t, m.d, v, p)
			for _, s := range statements(m.d.Procs[p].L) {
				kinds[s.Op]++
			}
			if !slices.Equal(v, modelRun(m.d, v, p)) {
				found["changed"]++
			}
			if some, all := len(modelAlways(m.d, p)), len(modelWrites(m.d, p)); 0 < some && some < all {
				found["always some"]++
			}
		}
	}
	for op := api.AssignT; op <= api.BlockT; op++ {
		if kinds[op] < 2000 {
			t.Errorf("%d of kind %d", kinds[op], op)
		}
	}
	if found["changed"] < 2000 || found["always some"] < 1000 {
		t.Errorf("%v", found)
	}
}

// fields are all that can be changed in a value.
func fields(v reflect.Value) []reflect.Value {
	var l []reflect.Value
	switch v.Kind() {
	case reflect.Struct:
		for k := range v.NumField() {
			l = append(l, fields(v.Field(k))...)
		}
		return l
	case reflect.Slice:
		for k := range v.Len() {
			l = append(l, fields(v.Index(k))...)
		}
	}
	return append(l, v)
}

// spoil puts something else into a field.
func (c *chance) spoil(d *api.Flat) {
	l := fields(reflect.ValueOf(d).Elem())
	field := l[c.below(len(l))]
	switch field.Kind() {
	case reflect.Int:
		numbers := []int{0, 1, 2, 3, 4, 5, 6, 8, 9, 14, 26, 27, 31, 34, 63, 64, 65, -1, math.MaxInt, math.MinInt}
		field.SetInt(int64(numbers[c.below(len(numbers))]))
	case reflect.Uint64:
		field.SetUint(c.bits(64))
	case reflect.String:
		field.SetString([]string{"", "s0", "s1", "new"}[c.below(4)])
	case reflect.Bool:
		field.SetBool(!field.Bool())
	case reflect.Slice:
		if c.seldom(2) {
			field.Set(field.Slice(0, c.below(field.Len()+1)))
		} else {
			field.Set(reflect.Append(field.Slice3(0, field.Len(), field.Len()), reflect.Zero(field.Type().Elem())))
		}
	}
}

// TestSpoiltOnes: of a design that is not sized nothing is told, of all others what the model tells.
func TestSpoiltOnes(t *testing.T) {
	c := chance(2)
	found := map[bool]int{}
	for range 3000 {
		m := c.design()
		c.spoil(&m.d)
		v := make([]uint64, len(m.d.Signals))
		sound := sized.Check(m.d) == api.OK
		found[sound]++
		if sound {
			v = m.values()
		}
		for p := range m.d.Procs {
			if sound {
				asModel(t, m.d, v, p)
			} else {
				refused(t, brief{m.d}, m.d, v, p)
			}
		}
	}
	if found[true] < 300 || found[false] < 2000 {
		t.Errorf("%v", found)
	}
}

// changed is values all of whose bits, but some, are any.
func (m *maker) changed(v []uint64, but []int) []uint64 {
	old, l := bitsOfValues(m.d, v), bitsOfValues(m.d, m.values())
	for _, bit := range but {
		l[bit] = old[bit]
	}
	return valuesOfBits(m.d, l)
}

// TestWhatFollows: what a process makes of values hangs on the bits that it reads alone: bits that it writes always are the same, all that it does not write stay.
func TestWhatFollows(t *testing.T) {
	c := chance(3)
	found := map[string]int{}
	for range 3000 {
		m := c.design()
		p := c.below(len(m.d.Procs))
		reads, readsErr := stmt.Reads(m.d, p)
		writes, writesErr := stmt.Writes(m.d, p)
		always, alwaysErr := stmt.Always(m.d, p)
		if readsErr != api.OK || writesErr != api.OK || alwaysErr != api.OK {
			t.Fatalf("%s: errors %d, %d, %d", brief{m.d}, readsErr, writesErr, alwaysErr)
		}
		for _, l := range [][]int{reads, writes, always} {
			if !slices.IsSorted(l) || len(slices.Compact(slices.Clone(l))) != len(l) {
				t.Fatalf("%s: %d", brief{m.d.Procs[p]}, l)
			}
		}
		for _, bit := range always {
			if !slices.Contains(writes, bit) {
				t.Fatalf("%s writes %d, and always %d", brief{m.d.Procs[p]}, writes, always)
			}
		}
		if len(always) > 0 && len(reads) > 0 {
			found["always"]++
		}
		v := m.values()
		made, err := stmt.Run(m.d, v, p)
		for range 4 {
			other := m.changed(v, reads)
			otherMade, otherErr := stmt.Run(m.d, other, p)
			if err != api.OK || otherErr != api.OK {
				t.Fatalf("errors %d, %d", err, otherErr)
			}
			first, second, before := bitsOfValues(m.d, made), bitsOfValues(m.d, otherMade), bitsOfValues(m.d, other)
			for bit := range first {
				if slices.Contains(always, bit) && first[bit] != second[bit] {
					t.Fatalf("%s: of %x %x, of %x %x", brief{m.d.Procs[p]}, v, made, other, otherMade)
				}
				if !slices.Contains(writes, bit) && second[bit] != before[bit] {
					t.Fatalf("%s: of %x %x", brief{m.d.Procs[p]}, other, otherMade)
				}
				if slices.Contains(always, bit) && second[bit] != before[bit] {
					found["changed"]++
				}
			}
		}
	}
	if found["always"] < 1000 || found["changed"] < 2000 {
		t.Errorf("%v", found)
	}
}
