package excerpt_test

import (
	"fmt"
	"slices"
	"testing"

	"filigree/api"
	"filigree/excerpt"
	"filigree/madeup"
	"filigree/sized"
	"filigree/stmt"
)

func design(t *testing.T, text string) api.Flat {
	t.Helper()
	d, e := madeup.Design(text)
	if e != api.OK {
		t.Fatalf("%q: error %d", text, e)
	}
	return d
}

// alone is one process of a design, as a design of its own.
func alone(d api.Flat, p int) (*excerpt.Excerpt, api.Flat) {
	x := excerpt.Of(d.Signals)
	procs := []api.Proc{x.Process(d.Procs[p])}
	return x, api.Flat{Signals: x.Signals, Procs: procs}
}

func TestProcess(t *testing.T) {
	d := design(t, `module m(in a:2,in b:3,in c:1,out y:3){wire w:1; reg q:2=3; assign w=c; comb{case(q){1:{y=b;} else:{y=b; y[0]=a[c];}}}}`)
	before := fmt.Sprint(d)
	x, one := alone(d, 1)
	if want := []int{5, 3, 1, 0, 2}; !slices.Equal(x.From, want) {
		t.Errorf("signals %d, want %d", x.From, want)
	}
	for k, s := range one.Signals {
		of := d.Signals[x.From[k]]
		of.Name = s.Name
		if s != of {
			t.Errorf("signal %d is %v, want %v", k, s, of)
		}
	}
	if got, want := x.Values([]uint64{10, 11, 12, 13, 14, 15}), []uint64{15, 13, 11, 10, 12}; !slices.Equal(got, want) {
		t.Errorf("values %d, want %d", got, want)
	}
	if e := sized.Check(one); e != api.OK {
		t.Errorf("error %d of %v", e, one)
	}
	if after := fmt.Sprint(d); after != before {
		t.Errorf("%s becomes %s", before, after)
	}
}

func TestExpression(t *testing.T) {
	d := design(t, `module m(in a:2,in b:3,out y:3,out z:1){assign y=b; assign z=b[1]&&a==0||b>2;}`)
	x := excerpt.Of(d.Signals)
	e := x.Expression(d.Procs[1].L[0].E[0])
	if want := []int{1, 0}; !slices.Equal(x.From, want) {
		t.Errorf("signals %d, want %d", x.From, want)
	}
	if err := sized.CheckE(api.Flat{Signals: x.Signals}, e); err != api.OK {
		t.Errorf("error %d of %v", err, e)
	}
	more := x.Expression(d.Procs[0].L[0].E[0])
	if more.Sig != 0 || len(x.Signals) != 2 {
		t.Errorf("signal %d of %v", more.Sig, x.Signals)
	}
}

func TestNothing(t *testing.T) {
	x := excerpt.Of(nil)
	if p := x.Process(api.Proc{Clocked: true}); !p.Clocked || len(p.L) > 0 || len(x.Signals) > 0 || len(x.Values(nil)) > 0 {
		t.Errorf("%v, %v", p, x)
	}
}

// TestDoesTheSame: a process alone makes of its signals' values what it makes of all.
func TestDoesTheSame(t *testing.T) {
	c := madeup.Chance(1)
	for range 200 {
		text := c.Module(madeup.Faults{})
		d := design(t, text)
		v := c.Values(d)
		for p := range d.Procs {
			x, one := alone(d, p)
			whole, _ := stmt.Run(d, v, p)
			made, e := stmt.Run(one, x.Values(v), 0)
			if e != api.OK || !slices.Equal(made, x.Values(whole)) {
				t.Fatalf("%s: process %d makes %x of %x, alone %x, error %d", text, p, whole, v, made, e)
			}
		}
	}
}
