package parse_test

import (
	"bytes"
	"reflect"
	"slices"
	"testing"

	"filigree/api"
	"filigree/ast"
	"filigree/parse"
	"filigree/scan"
	"filigree/spell"
)

// TestWrittenAndReadAgain: what layer 4 writes is read as the same tree.
func TestWrittenAndReadAgain(t *testing.T) {
	luck := chance(1)
	for range 2000 {
		f, x := luck.file(luck.below(8)), luck.x(luck.below(8))
		l, e := spell.Tokens(f)
		got, place, e2 := parse.Read(l)
		if e != api.OK || place != 0 || e2 != api.OK || !ast.Same(f, got) {
			t.Fatalf("%+v is read again as %+v, at %d error %d", f, got, place, e2)
		}
		if text, e := spell.Print(f); e == api.OK {
			reads(t, string(text), f)
		}
		m, _ := spell.TokensX(x)
		gotX, place, e := parse.ReadX(m)
		told(t, "an expression", gotX, place, e, x, ast.SameX)
		if text, e := spell.PrintX(x); e == api.OK {
			readsX(t, string(text), x)
		}
	}
}

// TestLooselyWritten: brackets, and empty blocks, that could be left out change nothing.
func TestLooselyWritten(t *testing.T) {
	luck := chance(8)
	for range 2000 {
		f, x := luck.file(luck.below(6)), luck.x(luck.below(6))
		w := loose{chance: &luck}
		for n := 2; n > 0; n-- {
			if text := w.file(f); len(text) <= api.MaxText {
				reads(t, text, f)
			}
			if text := w.whole(x); len(text) <= api.MaxText {
				readsX(t, text, x)
			}
		}
		if t.Failed() {
			return
		}
	}
}

// TestArgumentsStay: what is handed in is not changed, and what is told does not change with it.
func TestArgumentsStay(t *testing.T) {
	text := []byte(allOfIt())
	f, _, e := parse.Parse(text)
	l, _, _ := scan.Scan(text)
	before := slices.Clone(l)
	g, _, e2 := parse.Read(l)
	if e != api.OK || e2 != api.OK || string(text) != allOfIt() || !slices.Equal(l, before) {
		t.Error("an argument was changed", e, e2)
	}
	clear(text)
	clear(l)
	h, _, _ := parse.Parse([]byte(allOfIt()))
	if !ast.Same(f, h) || !ast.Same(g, h) {
		t.Error("an answer hangs on what was handed in")
	}
	x := []byte("a[b]+{c,d}")
	y, _, _ := parse.ParseX(x)
	copy(x, bytes.Repeat([]byte{'$'}, len(x)))
	readsX(t, "a[b]+{c,d}", y)
}

// lists adds to found from where up to where in memory each list of a tree stands, with the room that it has.
func lists(v reflect.Value, found *[][2]uintptr) {
	switch v.Kind() {
	case reflect.Slice:
		if v.Cap() > 0 {
			from := v.Pointer()
			*found = append(*found, [2]uintptr{from, from + uintptr(v.Cap())*v.Type().Elem().Size()})
		}
		for i := range v.Len() {
			lists(v.Index(i), found)
		}
	case reflect.Struct:
		for i := range v.NumField() {
			lists(v.Field(i), found)
		}
	}
}

// TestListsAreNew: no two lists of one answer, and of two, share anything.
func TestListsAreNew(t *testing.T) {
	f, _, _ := parse.Parse([]byte(allOfIt()))
	g, _, _ := parse.Parse([]byte(allOfIt()))
	var found [][2]uintptr
	lists(reflect.ValueOf([]api.File{f, g}), &found)
	slices.SortFunc(found, func(a, b [2]uintptr) int { return int(a[0]) - int(b[0]) })
	for i := 1; i < len(found); i++ {
		if found[i][0] < found[i-1][1] {
			t.Fatal("two lists share a part")
		}
	}
	if len(found) < 100 {
		t.Error(len(found))
	}
}
