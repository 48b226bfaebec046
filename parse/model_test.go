package parse_test

import (
	"slices"
	"strings"
	"testing"

	"filigree/api"
	"filigree/ast"
	"filigree/parse"
	"filigree/spell"
)

// kind is what tokens are read as: a file, or an expression.
type kind[N any] struct {
	as    string
	read  func(l []api.Token) (N, int, api.Errno)
	parse func(text []byte) (N, int, api.Errno)
	spell func(tree N) ([]api.Token, api.Errno)
	same  func(a, b N) bool
}

func files() kind[api.File] {
	return kind[api.File]{"file", parse.Read, parse.Parse, spell.Tokens, ast.Same}
}

func expressions() kind[api.X] {
	return kind[api.X]{"expr", parse.ReadX, parse.ParseX, spell.TokensX, ast.SameX}
}

// bare is tokens without the brackets and the empty blocks that may be left out, and without their places.
func bare(l []api.Token) []api.Token {
	var m []api.Token
	for i := 0; i < len(l); i++ {
		is := func(signs ...string) bool {
			return len(l)-i > len(signs) && slices.EqualFunc(l[i+1:i+1+len(signs)], signs, func(t api.Token, s string) bool { return t.S == s })
		}
		switch {
		case l[i].S == "else" && is("{", "}"):
			i += 2
		case l[i].S == "else" && is(":", "{", "}"):
			i += 3
		case l[i].S == "(" || l[i].S == ")":
		default:
			t := l[i]
			t.At = 0
			m = append(m, t)
		}
	}
	return m
}

// holds wants tokens, and a text of them, to be read as the model tells; it tells whether they are a tree.
func holds[N any](t *testing.T, k kind[N], g grammar, luck *chance, l []api.Token) bool {
	t.Helper()
	want := g.fault(l, k.as)
	got, place, e := k.read(l)
	text, places := luck.text(l)
	parsed, at, f := k.parse(text)
	if want.e != api.OK {
		failed(t, l, got, place, e, want)
		want.place = append(places, len(text))[want.place]
		failed(t, string(text), parsed, at, f, want)
		return false
	}
	if place != 0 || e != api.OK || at != 0 || f != api.OK || !k.same(got, parsed) {
		t.Errorf("%s is read as %s, at %d error %d, and as text as %s, at %d error %d", brief(l), brief(got), place, e, brief(parsed), at, f)
		return false
	}
	// What is read may be, and has the tokens that it was read from.
	if m, e := k.spell(got); e != api.OK || !slices.Equal(bare(l), bare(m)) {
		t.Errorf("%s is read as %s, which is written as %s, error %d", brief(l), brief(got), brief(m), e)
	}
	return true
}

// changed is tokens, a few of which are left out, put in, turned to others, or told twice.
func (c *chance) changed(l []api.Token) []api.Token {
	l = slices.Clone(l)
	for range 1 + c.below(2) {
		i := c.below(len(l) + 1)
		j := min(len(l), i+c.below(3))
		switch c.below(5) {
		case 0:
			l = slices.Delete(l, i, j)
		case 1:
			l = slices.Insert(l, i, c.token())
		case 2:
			l = slices.Replace(l, i, j, c.token())
		case 3:
			l = slices.Insert(l, i, l[i:j]...)
		case 4:
			l = l[:i]
		}
	}
	return l
}

// TestWrongTokens changes tokens of trees a little, and reads each beginning of some.
func TestWrongTokens(t *testing.T) {
	luck, g, right := chance(2), readGrammar(), 0
	for i := range 1200 {
		l, _ := spell.Tokens(luck.file(luck.below(6)))
		x, _ := spell.TokensX(luck.x(luck.below(5)))
		if !holds(t, files(), g, &luck, l) || !holds(t, expressions(), g, &luck, x) {
			t.Fatalf("%v, %v", l, x)
		}
		for range 3 {
			if holds(t, files(), g, &luck, luck.changed(l)) {
				right++
			}
			if holds(t, expressions(), g, &luck, luck.changed(x)) {
				right++
			}
		}
		for n := range min(i%40/39*len(l), 400) {
			holds(t, files(), g, &luck, l[:n])
		}
		if t.Failed() {
			return
		}
	}
	if right < 500 || right > 4000 {
		t.Error(right)
	}
}

// TestShortTokens goes through all expressions, right or wrong, of a few tokens, and files of a few more.
func TestShortTokens(t *testing.T) {
	luck, g := chance(3), readGrammar()
	one := tokens(t, "a 7 { } ( ) [ ] ? : , - * zext else")
	all := [][]api.Token{nil}
	for from := 0; len(all[from]) < 4; from++ {
		for _, token := range one {
			all = append(all, append(slices.Clone(all[from]), token))
		}
	}
	for _, l := range all {
		holds(t, expressions(), g, &luck, l)
		if t.Failed() {
			return
		}
	}
}

// grammarParts are items in which, with the modules around them, all of the grammar stands.
func grammarParts() []string {
	return []string{
		"const K = sext(1, trunc(2, 3));",
		"wire w: 1;",
		"reg q: N = 2'h3 + 1;",
		"assign w[7:0] = {a, b} == {2 {c[3]}} ? ~a : (b);",
		"comb { w = a; { } if (a) { } else if (b) { w[1] = 2; } else { } }",
		"comb { case (a) { 1, 2: { } 3: { w = 4; } else: { } } for (i = 0 .. 3) { w = i; } }",
		"on tick { q <= a; { } if (a) { } else if (b) { q[1] <= 2; } else { } }",
		"on tick { case (a) { 1, 2: { } 3: { q <= 4; } else: { } } for (i = 0 .. 3) { q <= i; } }",
		"inst u: o # (N = 1, M = 2) (p = a, r = b);",
		"inst v: o ();",
		"if (N) { wire x: 1; } else { comb { } }",
		"for l (i = 0 .. N) { check c: a <= b && !c; }",
	}
}

const grammarModule = "module m # (N = 4, M = N) (in a: N, out b: zext(8, a)) { } module n () { }\n"

// allOfIt is a text in which all of the grammar stands.
func allOfIt() string {
	return grammarModule + "module k () {\n" + strings.Join(grammarParts(), "\n") + "\n}\n"
}

// TestEachTokenEverywhere puts each token behind each beginning of files in which all of the grammar stands: as the last one, ahead of the next one, and in its place.
func TestEachTokenEverywhere(t *testing.T) {
	luck, g := chance(4), readGrammar()
	every := tokens(t, "module in out wire reg const assign comb on tick inst if else for check case zext sext trunc # ( ) , { } = : ; [ ] ? | ^ & < > + - * ~ ! .. <= >= || && == != << >> a 7 8'h7")
	texts := []string{grammarModule}
	for _, item := range grammarParts() {
		texts = append(texts, "module k () { "+item+" }")
	}
	for _, text := range texts {
		l := tokens(t, text)
		if !holds(t, files(), g, &luck, l) {
			return
		}
		for n := range len(l) + 1 {
			for _, token := range every {
				begun := append(slices.Clone(l[:n]), token)
				holds(t, files(), g, &luck, begun)
				holds(t, files(), g, &luck, slices.Concat(begun, l[n:]))
				holds(t, files(), g, &luck, slices.Concat(begun, l[min(len(l), n+1):]))
			}
			if t.Failed() {
				return
			}
		}
	}
}
