package lint_test

import (
	"fmt"
	"slices"
	"testing"

	"filigree/api"
	"filigree/elab"
	"filigree/lint"
	"filigree/parse"
	"filigree/sized"
)

// inputs are those of most tests' designs: 8 bits in all, ahead of all others.
const inputs = `in a:1,in b:1,in c:2,in d:4`

// design is the one that items say, of a module of these inputs.
func design(t *testing.T, items string) api.Flat {
	t.Helper()
	return whole(t, `module m(`+inputs+`){`+items+`}`)
}

// whole is the design of the module m of a file, sized.
func whole(t *testing.T, text string) api.Flat {
	t.Helper()
	d, e := sized.Size(unsized(t, text))
	if e != api.OK {
		t.Fatalf("%q: error %d", text, e)
	}
	return d
}

func unsized(t *testing.T, text string) api.Flat {
	t.Helper()
	f, place, e := parse.Parse([]byte(text))
	if e != api.OK {
		t.Fatalf("%q at %d: error %d", text, place, e)
	}
	d, e := elab.Elab(f, "m", nil)
	if e != api.OK {
		t.Fatalf("%q: error %d", text, e)
	}
	return d
}

// lists are the calls that tell a list.
var lists = map[string]func(d api.Flat) ([]int, api.Errno){"Drivers": lint.Drivers, "Order": lint.Order, "Levels": lint.Levels}

// tells wants a list of a call.
func tells(t *testing.T, what any, name string, d api.Flat, want []int) {
	t.Helper()
	if got, e := lists[name](d); e != api.OK || !slices.Equal(got, want) {
		t.Errorf("%v: %s tells %v, error %d, want %v", what, name, brief{got}, e, brief{want})
	}
}

// refused wants that Check tells an error, and so do Order and Levels, and nothing else; Drivers does so if the error is its own, else it tells no error.
func refused(t *testing.T, what any, d api.Flat, want api.Errno) {
	t.Helper()
	if e := lint.Check(d); e != want {
		t.Errorf("%v: Check tells error %d, want %d", what, e, want)
	}
	for name, call := range lists {
		wanted := want
		if name == "Drivers" && want != api.ErrArg && want != api.ErrTwo {
			wanted = api.OK
		}
		if got, e := call(d); e != wanted || e != api.OK && len(got) > 0 {
			t.Errorf("%v: %s tells %v, error %d, want error %d", what, name, brief{got}, e, wanted)
		}
	}
}

// clean wants that a design is.
func clean(t *testing.T, what any, d api.Flat, order, levels []int) {
	t.Helper()
	if e := lint.Check(d); e != api.OK {
		t.Errorf("%v: Check tells error %d", what, e)
	}
	tells(t, what, "Order", d, order)
	tells(t, what, "Levels", d, levels)
}

// brief is shown as a text that is not too long, which is made only where it is shown.
type brief struct{ of any }

func (b brief) String() string {
	return fmt.Sprintf("%.2000s", fmt.Sprintf("%+v", b.of))
}
