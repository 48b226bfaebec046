package spell_test

import (
	"bytes"
	"reflect"
	"slices"
	"testing"

	"filigree/api"
	"filigree/ast"
	"filigree/scan"
	"filigree/spell"
)

// again wants that a tree is told as the model tells it, and that its tokens are read as that tree again.
func again[N any](t *testing.T, tree N, l []api.Token, e api.Errno, clocked bool, one func(r *reader) N, same func(a, b N) bool, model func(n N) string) {
	t.Helper()
	if e != api.OK || !slices.Equal(l, modelTokens(model(tree))) {
		t.Fatalf("the tokens of %+v: %v, error %d", tree, l, e)
	}
	if got, ok := readAll(l, clocked, one); !ok || !same(got, tree) {
		t.Fatalf("%+v is written as %v, and read as %+v, %v", tree, l, got, ok)
	}
}

func againX(t *testing.T, x api.X) {
	t.Helper()
	l, e := spell.TokensX(x)
	again(t, x, l, e, false, (*reader).x, ast.SameX, modelX)
}

func againS(t *testing.T, s api.S) {
	t.Helper()
	for _, clocked := range []bool{false, true} {
		l, e := spell.TokensS(s, clocked)
		again(t, s, l, e, clocked, (*reader).s, ast.SameS, modelS(clocked))
	}
}

func againFile(t *testing.T, f api.File) {
	t.Helper()
	l, e := spell.Tokens(f)
	again(t, f, l, e, false, (*reader).file, ast.Same, modelFile)
	text, e := spell.Print(f)
	if e == api.ErrBound {
		return
	}
	if want, f := scan.Text(l); e != f || !bytes.Equal(text, want) {
		t.Fatalf("the text is %q, error %d, want %q, error %d", text, e, want, f)
	}
	if read, _, e := scan.Scan(text); e != api.OK || len(read) != len(l) {
		t.Fatalf("of %q %d tokens are read, error %d, want %d", text, len(read), e, len(l))
	}
}

func TestTreesOfChance(t *testing.T) {
	luck := chance(1)
	for range 3000 {
		againX(t, luck.x(luck.below(6)))
		againS(t, luck.s(luck.below(6)))
		againFile(t, luck.file(luck.below(7)))
	}
}

// parts are expressions of each kind, with each operation.
func parts() []api.X {
	l := []api.X{a, num(0, 1), num(4, 1), name("a", b), name("a", b, c), cond(a, b, c), cat(a), cat(a, b), rep(a, b)}
	for n := api.NotO; n <= api.NoO; n++ {
		l = append(l, un(n, a))
	}
	for n := api.AndO; n <= api.OneO; n++ {
		l = append(l, bin(a, n, b))
	}
	for n := api.ZextO; n <= api.CutO; n++ {
		l = append(l, op(api.ExtX, n, a, b))
	}
	return l
}

// TestAllPairs puts each part into each place of each expression: all are told as the model tells them, and no two have the same tokens.
func TestAllPairs(t *testing.T) {
	seen := map[string]api.X{}
	for _, of := range parts() {
		for k := range of.L {
			for _, part := range parts() {
				x := of
				x.L = slices.Clone(of.L)
				x.L[k] = part
				againX(t, x)
				apart(t, seen, x)
			}
		}
	}
}

// apart wants that no other expression has had that text.
func apart(t *testing.T, seen map[string]api.X, x api.X) {
	t.Helper()
	text, e := spell.PrintX(x)
	if other, ok := seen[string(text)]; e != api.OK || ok && !ast.SameX(other, x) {
		t.Fatalf("%+v and %+v have the text %q, error %d", x, other, text, e)
	}
	seen[string(text)] = x
}

// TestAllOfThree puts two parts into each operation of two, and three into a choice.
func TestAllOfThree(t *testing.T) {
	seen := map[string]api.X{}
	l := []api.X{a, un(api.NegO, a), un(api.AllO, cat(a)), cond(a, b, c)}
	for n := api.AndO; n <= api.OneO; n++ {
		l = append(l, bin(a, n, b))
	}
	for _, x := range l {
		for _, y := range l {
			for n := api.AndO; n <= api.OneO; n++ {
				againX(t, bin(x, n, y))
				apart(t, seen, bin(x, n, y))
			}
			for _, z := range []api.X{a, cond(a, b, c), bin(a, api.MulO, b)} {
				againX(t, cond(x, y, z))
				apart(t, seen, cond(x, y, z))
			}
		}
	}
}

// smallest are all statements of few nodes: what is left out of a text is to be seen all the same.
func smallest(deep int) []api.S {
	l := []api.S{set(a, b), block()}
	if deep == 0 {
		return l
	}
	var more []api.S
	for _, s := range smallest(deep - 1) {
		more = append(more, block(s), api.S{Op: api.ForS, Name: "i", X: []api.X{a, b}, L: []api.S{s}})
		more = append(more, choose(a, arm(nil, s)), choose(a, arm([]api.X{b}, s), arm(nil)), choose(a, arm([]api.X{b}), arm(nil, s)), choose(a, arm([]api.X{b, c}), arm([]api.X{b}, s), arm(nil)))
		more = append(more, when(a, block(s), block()), when(a, block(), block(s)), when(a, block(s), block(s)))
		if s.Op == api.IfS {
			more = append(more, when(a, block(), s), when(a, block(block()), s))
		}
	}
	return append(append(l, choose(a, arm(nil)), when(a, block(), block()), when(a, block(), when(b, block(), block()))), more...)
}

func TestSmallestStatements(t *testing.T) {
	seen := map[string]api.S{}
	for _, s := range smallest(3) {
		againS(t, s)
		l, _ := spell.TokensS(s, false)
		text, e := scan.Text(l)
		if other, ok := seen[string(text)]; e != api.OK || ok && !ast.SameS(other, s) {
			t.Fatalf("%+v and %+v have the text %q", s, other, text)
		}
		seen[string(text)] = s
	}
	if len(seen) < 1000 {
		t.Error(len(seen))
	}
}

// emptied is a tree of its own, in which each list without elements is not nil.
func emptied(v reflect.Value) reflect.Value {
	c := reflect.New(v.Type()).Elem()
	switch v.Kind() {
	case reflect.Slice:
		c.Set(reflect.MakeSlice(v.Type(), 0, v.Len()+1))
		for i := range v.Len() {
			c = reflect.Append(c, emptied(v.Index(i)))
		}
	case reflect.Struct:
		for i := range v.NumField() {
			c.Field(i).Set(emptied(v.Field(i)))
		}
	default:
		c.Set(v)
	}
	return c
}

// TestSameTrees: two trees that are the same have the same tokens, and what is told hangs neither on the tree nor on other answers.
func TestSameTrees(t *testing.T) {
	luck := chance(9)
	for range 300 {
		f := luck.file(5)
		g := emptied(reflect.ValueOf(f)).Interface().(api.File)
		l, _ := spell.Tokens(f)
		text, _ := spell.Print(f)
		m, e := spell.Tokens(g)
		if e != api.OK || !ast.Same(f, g) || !slices.Equal(l, m) {
			t.Fatalf("%v and %v are told of two trees that are the same, error %d", l, m, e)
		}
		for i := range m {
			m[i] = api.Token{Kind: -1, S: "changed"}
		}
		other, _ := spell.Print(f)
		clear(other)
		if l2, _ := spell.Tokens(f); !slices.Equal(l, l2) {
			t.Fatal("an answer hangs on another one")
		}
		if text2, _ := spell.Print(f); !bytes.Equal(text, text2) {
			t.Fatal("an answer hangs on another one")
		}
		if !reflect.DeepEqual(g, emptied(reflect.ValueOf(f)).Interface()) {
			t.Fatal("the tree was changed")
		}
	}
}

// TestTreeWrittenInto: who writes into a tree changes no answer that was told of it.
func TestTreeWrittenInto(t *testing.T) {
	x := cat(a, un(api.NotO, b))
	l, _ := spell.TokensX(x)
	x.L[1].L[0].Name = "z"
	x.L[0] = num(8, 1)
	if !slices.Equal(l, wanted(t, "{ a , ~ b }")) {
		t.Error(l)
	}
}
