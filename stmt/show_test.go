package stmt_test

import (
	"fmt"
	"strconv"
	"strings"
	"testing"

	"filigree/api"
	"filigree/elab"
	"filigree/parse"
	"filigree/sized"
)

// ports are signals of most tests' designs; there are a wire u of 8 bits, and registers q of 4 bits, r of 2, and s of 64, too.
const ports = `in a:1,in b:1,in c:2,in d:4,in w:64,out y:1,out z:4,out x:64`

// lowest are the numbers of the signals' lowest bits.
var lowest = map[string]int{"a": 0, "b": 1, "c": 2, "d": 4, "w": 8, "y": 72, "z": 73, "x": 77, "u": 141, "q": 149, "r": 153, "s": 155}

var widths = map[string]int{"a": 1, "b": 1, "c": 2, "d": 4, "w": 64, "y": 1, "z": 4, "x": 64, "u": 8, "q": 4, "r": 2, "s": 64}

// values are those that the signals have in most tests.
func values() []uint64 {
	return []uint64{1, 0, 2, 9, 0x8000000000000001, 0, 6, 5, 200, 10, 1, 7}
}

// tested is the number of the process that a text says.
const tested = 1

// design is one that is sized, in which a process stands between others.
func design(t *testing.T, process string) api.Flat {
	t.Helper()
	return laid(t, `assign x[9:8]=c+1; `+process+` on tick{s[40:30]<=s[30:20]; q<=q;} assign u=8'd1;`)
}

// laid is the design that a module's items say.
func laid(t *testing.T, items string) api.Flat {
	t.Helper()
	text := `module m(` + ports + `){wire u:8; reg q:4=5; reg r:2=0; reg s:64=1; ` + items + `}`
	f, place, e := parse.Parse([]byte(text))
	if e != api.OK {
		t.Fatalf("%q at %d: error %d", text, place, e)
	}
	d, e := elab.Elab(f, "m", nil)
	if e != api.OK {
		t.Fatalf("%q: error %d", text, e)
	}
	d, e = sized.Size(d)
	if e != api.OK {
		t.Fatalf("%q: error %d", text, e)
	}
	return d
}

// after is the values, but those that a text says, such as z=3 u=255.
func after(t *testing.T, d api.Flat, changes string) []uint64 {
	t.Helper()
	v := values()
	for _, change := range strings.Fields(changes) {
		name, number, _ := strings.Cut(change, "=")
		n, err := strconv.ParseUint(number, 0, 64)
		signal, ok := elab.Find(d, name)
		if err != nil || !ok {
			t.Fatalf("%s: %v", change, err)
		}
		v[signal] = n
	}
	return v
}

// places are the numbers of bits that a text says, such as a z[2:1] d[0].
func places(t *testing.T, bits string) []int {
	t.Helper()
	var l []int
	for _, one := range strings.Fields(bits) {
		name, rest, _ := strings.Cut(strings.TrimSuffix(one, "]"), "[")
		first, known := lowest[name]
		if !known {
			t.Fatalf("no signal %s", name)
		}
		hi, lo := widths[name]-1, 0
		if rest != "" {
			high, low, both := strings.Cut(rest, ":")
			hi, _ = strconv.Atoi(high)
			lo = hi
			if both {
				lo, _ = strconv.Atoi(low)
			}
		}
		l = from(l, first+lo, first+hi)
	}
	return l
}

// from puts the numbers from one to another one, and it, behind a list.
func from(l []int, first, last int) []int {
	for n := first; n <= last; n++ {
		l = append(l, n)
	}
	return l
}

// brief is shown as a text that is not too long, which is made only where it is shown.
type brief struct{ of any }

func (b brief) String() string {
	text := fmt.Sprintf("%+v", b.of)
	if len(text) > 2000 {
		return text[:2000] + " and so on"
	}
	return text
}

func num(w int, v uint64) api.E {
	return api.E{Op: api.NumE, W: w, V: v}
}

func bitsOf(signal, hi, lo int) api.E {
	return api.E{Op: api.SigE, W: hi - lo + 1, Sig: signal, Hi: hi, Lo: lo}
}

// of is an operation, a choice, or parts behind each other.
func of(op, n, w int, l ...api.E) api.E {
	return api.E{Op: op, N: n, W: w, L: l}
}

func at(signal int, n api.E) api.E {
	return api.E{Op: api.IndexE, W: 1, Sig: signal, L: []api.E{n}}
}

func set(signal, hi, lo int, e api.E) api.T {
	return api.T{Op: api.AssignT, Sig: signal, Hi: hi, Lo: lo, E: []api.E{e}}
}

func block(l ...api.T) api.T {
	return api.T{Op: api.BlockT, L: l}
}

func choice(e api.E, yes, no api.T) api.T {
	return api.T{Op: api.IfT, E: []api.E{e}, L: []api.T{yes, no}}
}

func arm(labels []api.E, l ...api.T) api.T {
	return api.T{Op: api.ArmT, E: labels, L: l}
}

func cases(e api.E, arms ...api.T) api.T {
	return api.T{Op: api.CaseT, E: []api.E{e}, L: arms}
}
