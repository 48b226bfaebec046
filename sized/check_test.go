package sized_test

import (
	"math"
	"testing"

	"filigree/api"
	"filigree/sized"
)

// TestCheckE: an expression is as it should be, if it is just what it is sized to.
func TestCheckE(t *testing.T) {
	for _, text := range []string{`5`, `4'd5`, `a`, `a[6:2]`, `a[c]`, `~5`, `!k`, `&5`, `a+1`, `1<<a`, `a==1`, `k||0`, `k?1:2`, `{a,c,4'd1}`, `zext(16,a)`, `trunc(3,5)`, `{zext(40,1+c)==1?a:255,^(w>>2)}`} {
		d, e := expression(t, text)
		told, err := sized.Expr(d, e, 0)
		if err != api.OK {
			t.Fatal(text, err)
		}
		if err := sized.CheckE(d, told); err != api.OK {
			t.Errorf("%s: error %d", showE(d, told), err)
		}
		// One width that is another one, wherever it stands, is told as what does not fit, unless nothing else hangs on it.
		for _, width := range widths(&told) {
			was := *width
			for _, w := range []int{0, was - 1, was + 1, 77, -1} {
				*width = w
				want, err := sized.Expr(d, told, told.W)
				if err == api.OK && !modelSame(want, told) {
					err = api.ErrSize
				}
				if got := sized.CheckE(d, told); got != err || w < 1 && got == api.OK {
					t.Errorf("%s: error %d, want %d", showE(d, told), got, err)
				}
			}
			*width = was
		}
	}
}

// widths are all those that stand in an expression.
func widths(e *api.E) []*int {
	l := []*int{&e.W}
	for k := range e.L {
		l = append(l, widths(&e.L[k])...)
	}
	return l
}

func TestErrorsOfCheckE(t *testing.T) {
	checks := func(text string, w int, fault api.Errno) {
		t.Helper()
		d, e := expression(t, text)
		e.W = w
		if err := sized.CheckE(d, e); err != fault {
			t.Errorf("%s of W %d: error %d, want %d", text, w, err, fault)
		}
	}
	checks(`a`, 8, api.OK)
	checks(`a`, 7, api.ErrSize)
	checks(`4'd5`, 4, api.OK)
	checks(`5`, 4, api.OK)
	// Nothing is wrong but that there is no width.
	checks(`a`, 0, api.ErrSize)
	checks(`5`, 0, api.ErrSize)
	checks(`a+1`, 0, api.ErrSize)
	// The parts have none.
	checks(`a+1`, 8, api.ErrSize)
	checks(`~a`, 8, api.ErrSize)
	checks(`!k`, 1, api.ErrSize)
	checks(`a[c]`, 1, api.ErrSize)
	// What Expr tells, for the width that stands there, 0 too.
	checks(`a+256`, 8, api.ErrFit)
	checks(`a+256`, 0, api.ErrFit)
	checks(`!a`, 1, api.ErrBit)
	checks(`!a`, 0, api.ErrBit)
	checks(`!a`, 8, api.ErrSize)
	checks(`4294967296`, 0, api.ErrFit)
	checks(`a`, -1, api.ErrArg)
	checks(`a`, 65, api.ErrArg)
	checks(`a+256`, math.MinInt, api.ErrArg)
	checks(`a+256`, math.MaxInt, api.ErrArg)
	checks(`a+256`, 1<<32, api.ErrArg)
	if err := sized.CheckE(api.Flat{}, api.E{}); err != api.ErrArg {
		t.Errorf("no expression: error %d", err)
	}
	if err := sized.CheckE(checked(), turned(number(1, 1), 64)); err != api.ErrBound {
		t.Errorf("65 deep: error %d", err)
	}
	if err := sized.CheckE(api.Flat{Signals: make([]api.Signal, 1)}, number(1, 1)); err != api.ErrArg {
		t.Errorf("signals that may not be: error %d", err)
	}
}

const design = `assign y=a+1; comb{u=~b; if(k){u[0]=a[c];}else{case(q){1,2:{u=255;} 4'd3:{} else:{{u={c,5'd9};}}}}} on tick{q<=q+1;} check p:q<9||k; check r:1;`

// TestCheck: a design is as it should be, if all its widths are told, and right.
func TestCheck(t *testing.T) {
	d := laid(t, design)
	if err := sized.Check(d); err != api.ErrSize {
		t.Errorf("widths that are not told: error %d", err)
	}
	told, err := sized.Size(d)
	if err != api.OK {
		t.Fatal(err)
	}
	if err := sized.Check(told); err != api.OK {
		t.Errorf("widths that are told: error %d", err)
	}
	others := 0
	for k := range placesOf(&told) {
		other := clone(told)
		field := placesOf(&other)[k]
		if !field.CanInt() {
			continue
		}
		for _, w := range []int64{0, 3, 9, -2} {
			if was := placesOf(&told)[k].Int(); w != was {
				field.SetInt(w)
				want, err := sized.Size(other)
				if err == api.OK && !modelSame(want, other) {
					err = api.ErrSize
					others++
				}
				if got := sized.Check(other); got != err {
					t.Errorf("%s: error %d, want %d", show(other), got, err)
				}
			}
		}
	}
	if others < 50 {
		t.Errorf("only %d widths that are others", others)
	}
}

func TestErrorsOfCheck(t *testing.T) {
	for items, fault := range map[string]api.Errno{``: api.OK, `comb{}`: api.OK, `comb{{}{}}`: api.OK, `assign y=a;`: api.ErrSize, `assign y=c;`: api.ErrSize, `assign y=256;`: api.ErrFit, `check p:a;`: api.ErrBit} {
		if err := sized.Check(laid(t, items)); err != fault {
			t.Errorf("%s: error %d, want %d", items, err, fault)
		}
	}
	d := laid(t, ``)
	d.Procs = []api.Proc{assigned(0, bitsOf(0, 7, 0))}
	if err := sized.Check(d); err != api.ErrRole {
		t.Errorf("error %d", err)
	}
	d.Signals[3].W = 0
	if err := sized.Check(d); err != api.ErrArg {
		t.Errorf("error %d", err)
	}
	d.Signals[3].W = 5000
	if err := sized.Check(d); err != api.ErrBound {
		t.Errorf("error %d", err)
	}
}
