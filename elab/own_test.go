package elab_test

import (
	"fmt"
	"testing"

	"filigree/api"
	"filigree/elab"
)

// TestArgumentsStay: what is handed in is not changed, and does not stand in what is answered: it may be written into afterwards.
func TestArgumentsStay(t *testing.T) {
	luck, designs := chance(10), 0
	for range 1500 {
		f, top, params := luck.file()
		before := fmt.Sprint(f, params)
		d, e := elab.Elab(f, top, params)
		if after := fmt.Sprint(f, params); after != before {
			t.Fatalf("%s becomes %s", before, after)
		}
		want := fmt.Sprint(d)
		for i := range f.Modules {
			m := &f.Modules[i]
			writeBinds(m.Params)
			for k := range m.Ports {
				writeXs([]api.X{m.Ports[k].W})
				m.Ports[k] = api.Port{}
			}
			writeItems(m.Items)
		}
		clear(f.Modules)
		clear(params)
		if fmt.Sprint(d) != want {
			t.Fatalf("%s becomes %s", want, fmt.Sprint(d))
		}
		if e == api.OK {
			designs++
		}
	}
	if designs < 500 {
		t.Errorf("only %d designs", designs)
	}
}

func writeXs(l []api.X) {
	for i := range l {
		writeXs(l[i].L)
		l[i] = api.X{Op: 77, V: 77, W: 77}
	}
}

func writeBinds(l []api.Bind) {
	for i := range l {
		writeXs([]api.X{l[i].X})
		l[i].Name = "written"
	}
}

func writeStatements(l []api.S) {
	for i := range l {
		writeXs(l[i].X)
		writeStatements(l[i].L)
		l[i] = api.S{Op: 77, Name: "written"}
	}
}

func writeItems(l []api.Item) {
	for i := range l {
		writeXs(l[i].X)
		writeStatements(l[i].S)
		writeItems(l[i].L)
		writeItems(l[i].Else)
		writeBinds(l[i].Params)
		writeBinds(l[i].Binds)
		l[i] = api.Item{Op: 77, Name: "written"}
	}
}

// marks writes a number of its own into each part of designs, or wants to find it there.
type marks struct {
	next    int
	finds   bool
	another bool
}

func (m *marks) mark(at *int) {
	m.next++
	if m.finds && *at != m.next {
		m.another = true
	}
	*at = m.next
}

func (m *marks) expressions(l []api.E) {
	for i := range l {
		m.mark(&l[i].Hi)
		m.expressions(l[i].L)
	}
}

func (m *marks) statements(l []api.T) {
	for i := range l {
		m.mark(&l[i].Hi)
		m.expressions(l[i].E)
		m.statements(l[i].L)
	}
}

func (m *marks) design(d api.Flat) {
	for i := range d.Signals {
		m.mark(&d.Signals[i].W)
	}
	for _, p := range d.Procs {
		m.statements(p.L)
	}
	for i := range d.Checks {
		m.mark(&d.Checks[i].E.Hi)
		m.expressions(d.Checks[i].E.L)
	}
}

// TestListsAreNew: no two lists of answers share a part, nor do those of one answer.
func TestListsAreNew(t *testing.T) {
	luck, most := chance(11), 0
	for range 1500 {
		f, top, params := luck.file()
		d, _ := elab.Elab(f, top, params)
		again, _ := elab.Elab(f, top, params)
		writes, finds := &marks{}, &marks{finds: true}
		for _, m := range []*marks{writes, finds} {
			m.design(d)
			m.design(again)
		}
		if finds.another {
			t.Fatalf("lists of %s share a part", brief(f))
		}
		most = max(most, writes.next)
	}
	if most < 1000 {
		t.Errorf("no design has more than %d parts", most)
	}
	d, _ := elab.Elab(file(t, `module m(in a:2,out y:8){check c:{2{{2{a+1}}}}; comb{for(i=0..2){y={2{a}}; if(a){y={2{a[0]}};}}}}`), "m", nil)
	writes, finds := &marks{}, &marks{finds: true}
	writes.design(d)
	finds.design(d)
	if finds.another {
		t.Error("what is repeated shares a part")
	}
}

// TestAgain: the same is told whenever it is asked.
func TestAgain(t *testing.T) {
	luck := chance(12)
	for range 300 {
		f, top, params := luck.file()
		d, e := elab.Elab(f, top, params)
		for range 3 {
			if d2, e2 := elab.Elab(f, top, params); e2 != e || fmt.Sprint(d2) != fmt.Sprint(d) {
				t.Fatalf("%s is %s, error %d, and then %s, error %d", brief(f), show(d), e, show(d2), e2)
			}
		}
	}
}
