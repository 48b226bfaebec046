package eval_test

import (
	"fmt"
	"strings"
	"testing"

	"filigree/api"
	"filigree/elab"
	"filigree/parse"
	"filigree/sized"
)

// ports are the signals that the expressions of most tests are of; their bits are 0 to 3, 4 to 11, 12 to 14, 15, 16 to 79, 80 to 112, 113 to 120. There is a wire u of 8 bits, 121 to 128, and a register q of 4 bits, 129 to 132, too.
const ports = `in a:4,in b:8,in c:3,in k:1,in w:64,in x:33,out y:8`

// values are those that the signals have in most tests.
func values() []uint64 {
	return []uint64{9, 200, 5, 1, 0x8000000000000001, 1<<32 | 6, 0, 255, 10}
}

// laid is the design that a module's items say; its widths are not told yet.
func laid(t *testing.T, items string) api.Flat {
	t.Helper()
	text := `module m(` + ports + `){wire u:8; reg q:4=5; ` + items + `}`
	f, place, e := parse.Parse([]byte(text))
	if e != api.OK {
		t.Fatalf("%q at %d: error %d", text, place, e)
	}
	d, e := elab.Elab(f, "m", nil)
	if e != api.OK {
		t.Fatalf("%q: error %d", text, e)
	}
	return d
}

// base is a design that is sized, whose signals most expressions are of.
func base(t *testing.T) api.Flat {
	t.Helper()
	d, e := sized.Size(laid(t, `assign y=b+1; comb{u=~b; if(k){u[0]=a[c];}} on tick{case(q){1,2:{q<=a;} else:{q<=q+1;}}} check p:q<9||k;`))
	if e != api.OK {
		t.Fatal(e)
	}
	return d
}

// expression is a text's, sized, with a design whose signals it is of.
func expression(t *testing.T, text string) (api.Flat, api.E) {
	t.Helper()
	d := base(t)
	e, fault := sized.Expr(d, laid(t, `check c0:`+text+`;`).Checks[0].E, 0)
	if fault != api.OK {
		t.Fatalf("%s: error %d", text, fault)
	}
	return d, e
}

func word(n int, words string) string {
	if l := strings.Fields(words); 0 <= n && n < len(l) {
		return l[n]
	}
	return "?"
}

// show writes an expression; behind each node stands its width.
func show(d api.Flat, e api.E) string {
	var texts []string
	for _, part := range e.L {
		texts = append(texts, show(d, part))
	}
	signal := "?"
	if 0 <= e.Sig && e.Sig < len(d.Signals) {
		signal = d.Signals[e.Sig].Name
	}
	text, parts := "?", "("+strings.Join(texts, ", ")+")"
	switch e.Op {
	case api.NumE:
		text, parts = fmt.Sprint(e.V), ""
	case api.SigE:
		text, parts = fmt.Sprintf("%s[%d:%d]", signal, e.Hi, e.Lo), ""
	case api.IndexE:
		text = signal
	case api.UnE:
		text = word(e.N, "? not neg all any odd no")
	case api.BinE:
		text = word(e.N-api.AndO, "and or xor add sub mul shl shr eq ne lt le gt ge both one")
	case api.CondE:
		text = "cond"
	case api.CatE:
		text = "cat"
	case api.ExtE:
		text = word(e.N-api.ZextO, "zext sext cut")
	}
	return brief(fmt.Sprintf("%s:%d%s", text, e.W, parts))
}

// brief is a text that is not too long.
func brief(text string) string {
	if len(text) > 1000 {
		return text[:1000] + " and so on"
	}
	return text
}

func num(w int, v uint64) api.E {
	return api.E{Op: api.NumE, W: w, V: v}
}

func bitsOf(signal, hi, lo int) api.E {
	return api.E{Op: api.SigE, W: hi - lo + 1, Sig: signal, Hi: hi, Lo: lo}
}

// of is an operation, a choice, or parts behind each other.
func of(op, n, w int, l ...api.E) api.E {
	return api.E{Op: op, N: n, W: w, L: l}
}

func at(signal int, n api.E) api.E {
	return api.E{Op: api.IndexE, W: 1, Sig: signal, L: []api.E{n}}
}
