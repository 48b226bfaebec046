package parse

import "filigree/api"

// maxOpen is how many brackets may be open at once.
const maxOpen = 256

// fault is what is wrong, and at which token.
type fault struct {
	place int
	e     api.Errno
}

// reader goes through tokens, which may be, from the left. At the first one that can't stand where it stands it throws a fault.
//
// Its methods call themselves from row to row, and where brackets stand in brackets, and nowhere else: of these never many are open. Whatever else stands in itself, as often as there are tokens, is gone through in loops, and of such a chain no more than api.MaxDeep parts are kept: a tree that has them is too deep as it is.
type reader struct {
	tokens  []api.Token
	at      int
	open    int              // how many brackets are
	becomes string           // the sign of the assignments of the block that is read
	rows    []map[string]int // signs between two operands
	ahead   map[string]int   // signs ahead of an operand
	widen   map[string]int   // words that make another width
}

func newReader(l []api.Token) *reader {
	return &reader{tokens: l, rows: rows(), ahead: ahead(), widen: widen()}
}

// next is the token that comes next; at the end it is one of no kind.
func (r *reader) next() api.Token {
	if r.at == len(r.tokens) {
		return api.Token{}
	}
	return r.tokens[r.at]
}

// wrong is the fault of what comes next, if it can't stand there.
func (r *reader) wrong() fault {
	if r.at == len(r.tokens) {
		return fault{r.at, api.ErrEnd}
	}
	return fault{r.at, api.ErrWant}
}

// is tells whether a word, or a sign, comes next: no name is one, and a number has no text.
func (r *reader) is(s string) bool { return r.next().S == s }

// took passes a word, or a sign, if it comes next.
func (r *reader) took(s string) bool {
	if !r.is(s) {
		return false
	}
	r.at++
	return true
}

// want passes a word, or a sign, which has to come next.
func (r *reader) want(s string) {
	if !r.took(s) {
		panic(r.wrong())
	}
}

// name passes a name, which has to come next.
func (r *reader) name() string {
	t := r.next()
	if t.Kind != api.NameT {
		panic(r.wrong())
	}
	r.at++
	return t.S
}

// within passes a bracket, what is read between, and the bracket that ends it.
func (r *reader) within(open, end string, read func()) {
	if r.is(open) && r.open == maxOpen {
		panic(fault{r.at, api.ErrDeep})
	}
	r.want(open)
	r.open++
	read()
	r.want(end)
	r.open--
}

// inside is the expression between two brackets.
func (r *reader) inside(open, end string) (x api.X) {
	r.within(open, end, func() { x = r.expression() })
	return x
}

// behind is the expressions behind these signs.
func (r *reader) behind(signs ...string) []api.X {
	var l []api.X
	for _, s := range signs {
		r.want(s)
		l = append(l, r.expression())
	}
	return l
}

// braces is what stands between { and }, one behind the other.
func braces[N any](r *reader, one func(r *reader) N) []N {
	var l []N
	r.within("{", "}", func() {
		for !r.is("}") {
			l = append(l, one(r))
		}
	})
	return l
}

// list is one, or more with commas between.
func list[N any](r *reader, one func(r *reader) N) []N {
	l := []N{one(r)}
	for r.took(",") {
		l = append(l, one(r))
	}
	return l
}

// listed is a list between ( and ), or nothing between them.
func listed[N any](r *reader, one func(r *reader) N) []N {
	var l []N
	r.within("(", ")", func() {
		if !r.is(")") {
			l = list(r, one)
		}
	})
	return l
}
