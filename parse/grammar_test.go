package parse_test

import (
	"slices"
	"strings"

	"filigree/api"
	"filigree/scan"
)

// The model reads the chapter's grammar itself, as a text, and goes through tokens by all of its ways at once: it tells which tokens can stand where, and knows nothing of trees. What can stand behind the first part of braces is joined, so that there is never more than one way.

const grammarText = `
file: { module }
module: 'module' NAME [ '#' '(' param { ',' param } ')' ] '(' [ port { ',' port } ] ')' '{' { item } '}'
param: NAME '=' expr
port: ( 'in' | 'out' ) NAME ':' expr
item: 'const' NAME '=' expr ';' | 'wire' NAME ':' expr ';' | 'reg' NAME ':' expr '=' expr ';' | 'assign' target '=' expr ';' | 'comb' combblock | 'on' 'tick' tickblock | 'inst' NAME ':' NAME [ '#' '(' param { ',' param } ')' ] '(' [ param { ',' param } ] ')' ';' | 'if' '(' expr ')' items [ 'else' items ] | 'for' NAME '(' NAME '=' expr '..' expr ')' items | 'check' NAME ':' expr ';'
items: '{' { item } '}'
combblock: '{' { combstmt } '}'
combstmt: target '=' expr ';' | combif | 'case' '(' expr ')' '{' { expr { ',' expr } ':' combblock } [ 'else' ':' combblock ] '}' | 'for' '(' NAME '=' expr '..' expr ')' combblock | combblock
combif: 'if' '(' expr ')' combblock [ 'else' ( combblock | combif ) ]
tickblock: '{' { tickstmt } '}'
tickstmt: target '<=' expr ';' | tickif | 'case' '(' expr ')' '{' { expr { ',' expr } ':' tickblock } [ 'else' ':' tickblock ] '}' | 'for' '(' NAME '=' expr '..' expr ')' tickblock | tickblock
tickif: 'if' '(' expr ')' tickblock [ 'else' ( tickblock | tickif ) ]
target: NAME [ '[' expr [ ':' expr ] ']' ]
expr: one [ '?' expr ':' expr ]
one: both { '||' both }
both: or { '&&' or }
or: xor { '|' xor }
xor: and { '^' and }
and: equal { '&' equal }
equal: less { ( '==' | '!=' ) less }
less: shift { ( '<' | '<=' | '>' | '>=' ) shift }
shift: sum { ( '<<' | '>>' ) sum }
sum: product { ( '+' | '-' ) product }
product: operand { '*' operand }
operand: ( '~' | '-' | '&' | '|' | '^' | '!' ) operand | NUMBER | target | '(' expr ')' | '{' expr ( { ',' expr } '}' | '{' expr '}' '}' ) | ( 'zext' | 'sext' | 'trunc' ) '(' expr ',' expr ')'
`

// part is one of the grammar: a token or a name of parts (s), or those in l, by its kind: one behind the other, one of them, none or one of them, any number of times.
type part struct {
	kind byte
	s    string
	l    []*part
}

const (
	leaf   = '\''
	behind = ' '
	either = '|'
	maybe  = '['
	often  = '{'
)

type grammar map[string]*part

func readGrammar() grammar {
	g := grammar{}
	for _, line := range strings.Split(strings.TrimSpace(grammarText), "\n") {
		left, right, _ := strings.Cut(line, ": ")
		p, _ := readEither(strings.Fields(right))
		g[left] = p
	}
	return g
}

// readEither reads up to the end, or a closing bracket, and tells what stands there.
func readEither(l []string) (*part, []string) {
	p := &part{kind: either, l: []*part{{kind: behind}}}
	for len(l) > 0 && !strings.Contains(")]}", l[0]) {
		s := l[0]
		l = l[1:]
		one := &part{kind: leaf, s: s}
		switch s {
		case "|":
			p.l = append(p.l, &part{kind: behind})
			continue
		case "(", "[", "{":
			one, l = readEither(l)
			l = l[1:]
			if s != "(" {
				one = &part{kind: s[0], l: []*part{one}}
			}
		}
		last := p.l[len(p.l)-1]
		last.l = append(last.l, one)
	}
	return p, l
}

// todo is what is to be read yet, from the left.
type todo struct {
	p    *part
	rest *todo
}

// after goes a token further: it adds to found what is to be read then, on each way on which the token can stand there.
func (g grammar) after(w *todo, t api.Token, found []*todo) []*todo {
	if w == nil {
		return found
	}
	switch w.p.kind {
	case behind:
		next := w.rest
		for _, p := range slices.Backward(w.p.l) {
			next = &todo{p, next}
		}
		return g.after(next, t, found)
	case either:
		for _, p := range w.p.l {
			found = g.after(&todo{p, w.rest}, t, found)
		}
		return found
	case maybe:
		return g.after(w.rest, t, g.after(&todo{w.p.l[0], w.rest}, t, found))
	case often:
		return g.after(w.rest, t, g.after(&todo{w.p.l[0], w}, t, found))
	}
	if p := g[w.p.s]; p != nil {
		return g.after(&todo{p, w.rest}, t, found)
	}
	if fits(w.p.s, t) {
		found = append(found, w.rest)
	}
	return found
}

func fits(s string, t api.Token) bool {
	switch t.Kind {
	case api.NameT:
		return s == "NAME"
	case api.NumT:
		return s == "NUMBER"
	}
	return s == "'"+t.S+"'"
}

// empty tells whether a part may be of no tokens.
func (g grammar) empty(p *part) bool {
	switch p.kind {
	case behind:
		return !slices.ContainsFunc(p.l, func(p *part) bool { return !g.empty(p) })
	case either:
		return slices.ContainsFunc(p.l, g.empty)
	case leaf:
		return g[p.s] != nil && g.empty(g[p.s])
	}
	return true
}

// fault is what is wrong with tokens, up to their end, if they are to be read as that; how great the tree is, it does not know.
func (g grammar) fault(l []api.Token, as string) fault {
	if i := slices.IndexFunc(l, func(t api.Token) bool { return scan.Check(t) != api.OK }); i >= 0 {
		return fault{i, api.ErrArg}
	}
	w, open := &todo{g[as], nil}, 0
	for i, t := range l {
		found := g.after(w, t, nil)
		switch {
		case len(found) == 0:
			return fault{i, api.ErrWant}
		case len(found) > 1:
			panic("the next token does not tell how to go on")
		case t.Kind == api.SignT && strings.Contains("([{", t.S):
			if open == 256 {
				return fault{i, api.ErrDeep}
			}
			open++
		case t.Kind == api.SignT && strings.Contains(")]}", t.S):
			open--
		}
		w = found[0]
	}
	for ; w != nil; w = w.rest {
		if !g.empty(w.p) {
			return fault{len(l), api.ErrEnd}
		}
	}
	return fault{}
}
