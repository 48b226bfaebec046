package elab_test

import (
	"fmt"
	"strings"
	"testing"

	"filigree/api"
	"filigree/elab"
	"filigree/parse"
	"filigree/spell"
)

// file is what a text says.
func file(t *testing.T, text string) api.File {
	t.Helper()
	f, place, e := parse.Parse([]byte(text))
	if e != api.OK {
		t.Fatalf("%q at %d: error %d", text, place, e)
	}
	return f
}

// brief is a file's text.
func brief(f api.File) string {
	text, _ := spell.Print(f)
	return string(text)
}

// lays wants that a module of a text is a design, written as show does.
func lays(t *testing.T, text, top, want string, params ...api.Named) {
	t.Helper()
	d, e := elab.Elab(file(t, text), top, params)
	if got := show(d); e != api.OK || got != want {
		t.Errorf("%s of %s:\n got %s, error %d\nwant %s", top, text, got, e, want)
	}
	mayBe(t, text, d)
}

// fails wants an error, and nothing else.
func fails(t *testing.T, text, top string, want api.Errno, params ...api.Named) {
	t.Helper()
	wrong(t, text, file(t, text), top, want, params...)
}

func wrong(t *testing.T, what string, f api.File, top string, want api.Errno, params ...api.Named) {
	t.Helper()
	d, e := elab.Elab(f, top, params)
	if e != want || len(d.Signals)+len(d.Procs)+len(d.Checks) != 0 {
		t.Errorf("%s of %s: %s, error %d, want error %d", top, what, show(d), e, want)
	}
}

// show writes a design: its signals / its processes / its checks.
func show(d api.Flat) string {
	var signals, procs, checks []string
	for _, s := range d.Signals {
		text := fmt.Sprintf("%s %s:%d", word(s.Kind, "?", "in", "out", "wire", "reg"), s.Name, s.W)
		if s.Kind == api.RegK {
			text += fmt.Sprint("=", s.Init)
		}
		signals = append(signals, text)
	}
	for _, p := range d.Procs {
		text := showBlock(d, p.L)
		if p.Clocked {
			text = "tick" + text
		}
		procs = append(procs, text)
	}
	for _, c := range d.Checks {
		checks = append(checks, c.Name+": "+showE(d, c.E))
	}
	return strings.Join(signals, ", ") + " / " + strings.Join(procs, " ") + " / " + strings.Join(checks, ", ")
}

func word(n int, words ...string) string {
	if n < 0 || n >= len(words) {
		return "?"
	}
	return words[n]
}

func showSignal(d api.Flat, signal int) string {
	if signal < 0 || signal >= len(d.Signals) {
		return "?"
	}
	return d.Signals[signal].Name
}

func showBits(d api.Flat, signal, hi, lo int) string {
	return fmt.Sprintf("%s[%d:%d]", showSignal(d, signal), hi, lo)
}

func showBlock(d api.Flat, l []api.T) string {
	var texts []string
	for _, t := range l {
		texts = append(texts, showT(d, t))
	}
	return "{" + strings.Join(texts, "; ") + "}"
}

func showT(d api.Flat, t api.T) string {
	values, parts := showEs(d, t.E), showBlock(d, t.L)
	switch t.Op {
	case api.AssignT:
		return showBits(d, t.Sig, t.Hi, t.Lo) + " = " + values
	case api.IfT:
		return "if " + values + " " + parts
	case api.CaseT:
		return "case " + values + " " + parts
	case api.ArmT:
		return values + ": " + parts
	case api.BlockT:
		return parts
	}
	return "?"
}

func showEs(d api.Flat, l []api.E) string {
	var texts []string
	for _, e := range l {
		texts = append(texts, showE(d, e))
	}
	return strings.Join(texts, ", ")
}

func showE(d api.Flat, e api.E) string {
	parts := showEs(d, e.L)
	switch e.Op {
	case api.NumE:
		if e.W == 0 {
			return fmt.Sprint(e.V)
		}
		return fmt.Sprintf("%d'%d", e.W, e.V)
	case api.SigE:
		return showBits(d, e.Sig, e.Hi, e.Lo)
	case api.IndexE:
		return showSignal(d, e.Sig) + "(" + parts + ")"
	case api.UnE:
		return word(e.N, strings.Fields("? not neg all any odd no")...) + "(" + parts + ")"
	case api.BinE:
		return word(e.N-api.AndO, strings.Fields("and or xor add sub mul shl shr eq ne lt le gt ge both one")...) + "(" + parts + ")"
	case api.CondE:
		return "cond(" + parts + ")"
	case api.CatE:
		return "cat(" + parts + ")"
	case api.ExtE:
		return fmt.Sprintf("%s%d(%s)", word(e.N-api.ZextO, "zext", "sext", "cut"), e.W, parts)
	}
	return "?"
}
