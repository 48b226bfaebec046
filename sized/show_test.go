package sized_test

import (
	"fmt"
	"strings"
	"testing"

	"filigree/api"
	"filigree/elab"
	"filigree/parse"
)

// ports are the signals that the expressions of most tests are of; there is a wire u of 8 bits, and a register q of 4 bits, too.
const ports = `in a:8,in b:8,in c:3,in k:1,in w:64,in v:33,out y:8,out z:1`

// laid is the design that a module's items say; its widths are not told yet.
func laid(t *testing.T, items string) api.Flat {
	t.Helper()
	text := `module m(` + ports + `){wire u:8; reg q:4=5; ` + items + `}`
	f, place, e := parse.Parse([]byte(text))
	if e != api.OK {
		t.Fatalf("%q at %d: error %d", text, place, e)
	}
	d, e := elab.Elab(f, "m", nil)
	if e != api.OK {
		t.Fatalf("%q: error %d", text, e)
	}
	return d
}

// expression is a text's, with the design whose signals it is of.
func expression(t *testing.T, text string) (api.Flat, api.E) {
	t.Helper()
	d := laid(t, `check c0:`+text+`;`)
	return d, d.Checks[0].E
}

// show writes a design's processes and checks; behind each expression stands its width.
func show(d api.Flat) string {
	var texts []string
	for _, p := range d.Procs {
		text := showBlock(d, p.L)
		if p.Clocked {
			text = "tick" + text
		}
		texts = append(texts, text)
	}
	for _, c := range d.Checks {
		texts = append(texts, c.Name+": "+showE(d, c.E))
	}
	return strings.Join(texts, " ")
}

func word(n int, words string) string {
	if l := strings.Fields(words); 0 <= n && n < len(l) {
		return l[n]
	}
	return "?"
}

func showSignal(d api.Flat, signal int) string {
	if signal < 0 || signal >= len(d.Signals) {
		return "?"
	}
	return d.Signals[signal].Name
}

func showBlock(d api.Flat, l []api.T) string {
	var texts []string
	for _, t := range l {
		texts = append(texts, showT(d, t))
	}
	return "{" + strings.Join(texts, "; ") + "}"
}

func showT(d api.Flat, t api.T) string {
	values, parts := showEs(d, t.E), showBlock(d, t.L)
	switch t.Op {
	case api.AssignT:
		return fmt.Sprintf("%s[%d:%d] = %s", showSignal(d, t.Sig), t.Hi, t.Lo, values)
	case api.IfT:
		return "if " + values + " " + parts
	case api.CaseT:
		return "case " + values + " " + parts
	case api.ArmT:
		return values + ": " + parts
	case api.BlockT:
		return parts
	}
	return "?"
}

func showEs(d api.Flat, l []api.E) string {
	var texts []string
	for _, e := range l {
		texts = append(texts, showE(d, e))
	}
	return strings.Join(texts, ", ")
}

func showE(d api.Flat, e api.E) string {
	text, parts := "?", "("+showEs(d, e.L)+")"
	switch e.Op {
	case api.NumE:
		text, parts = fmt.Sprint(e.V), ""
	case api.SigE:
		text, parts = fmt.Sprintf("%s[%d:%d]", showSignal(d, e.Sig), e.Hi, e.Lo), ""
	case api.IndexE:
		text = showSignal(d, e.Sig)
	case api.UnE:
		text = word(e.N, "? not neg all any odd no")
	case api.BinE:
		text = word(e.N-api.AndO, "and or xor add sub mul shl shr eq ne lt le gt ge both one")
	case api.CondE:
		text = "cond"
	case api.CatE:
		text = "cat"
	case api.ExtE:
		text = word(e.N-api.ZextO, "zext sext cut")
	}
	return fmt.Sprintf("%s:%d%s", text, e.W, parts)
}

// brief is an expression, or a design, as a text that is not too long.
func brief(text string) string {
	if len(text) > 600 {
		return text[:600] + " and so on"
	}
	return text
}
