package spell_test

import (
	"slices"

	"filigree/api"
)

// reader reads tokens as a tree, by the grammar of the language; it gives up by a panic. If all trees are read again, no two others have the same tokens.
type reader struct {
	l       []api.Token
	clocked bool
}

// readAll is what one makes of all tokens.
func readAll[N any](l []api.Token, clocked bool, one func(r *reader) N) (n N, ok bool) {
	defer func() {
		if recover() != nil {
			ok = false
		}
	}()
	r := &reader{l: l, clocked: clocked}
	n = one(r)
	return n, len(r.l) == 0
}

// is tells whether the next token is one of these words or signs.
func (r *reader) is(l ...string) bool {
	return len(r.l) > 0 && (r.l[0].Kind == api.WordT || r.l[0].Kind == api.SignT) && slices.Contains(l, r.l[0].S)
}

func (r *reader) pass() api.Token {
	t := r.l[0]
	r.l = r.l[1:]
	return t
}

// want passes all of these words and signs.
func (r *reader) want(l ...string) {
	for _, s := range l {
		if !r.is(s) {
			panic("another token")
		}
		r.pass()
	}
}

func (r *reader) took(s string) bool {
	if r.is(s) {
		r.pass()
		return true
	}
	return false
}

func (r *reader) name() string {
	if r.l[0].Kind != api.NameT {
		panic("no name")
	}
	return r.pass().S
}

// until reads one after the other, till an end, which is passed.
func until[N any](r *reader, end string, one func() N) []N {
	var l []N
	for !r.took(end) {
		l = append(l, one())
	}
	return l
}

// commas reads one and more, with commas between.
func commas[N any](r *reader, one func() N) []N {
	l := []N{one()}
	for r.took(",") {
		l = append(l, one())
	}
	return l
}

// round reads what stands between brackets, if anything does.
func round[N any](r *reader, one func() N) []N {
	r.want("(")
	var l []N
	if !r.is(")") {
		l = commas(r, one)
	}
	r.want(")")
	return l
}

func (r *reader) file() api.File {
	var f api.File
	for len(r.l) > 0 {
		f.Modules = append(f.Modules, r.module())
	}
	return f
}

func (r *reader) module() api.Module {
	r.want("module")
	m := api.Module{Name: r.name(), Params: r.params(), Ports: round(r, r.port)}
	m.Items = r.items()
	return m
}

func (r *reader) params() []api.Bind {
	if r.took("#") {
		return round(r, r.bind)
	}
	return nil
}

func (r *reader) bind() api.Bind {
	b := api.Bind{Name: r.name()}
	r.want("=")
	b.X = r.x()
	return b
}

func (r *reader) port() api.Port {
	p := api.Port{Out: r.took("out")}
	if !p.Out {
		r.want("in")
	}
	p.Name = r.name()
	r.want(":")
	p.W = r.x()
	return p
}

func (r *reader) items() []api.Item {
	r.want("{")
	return until(r, "}", r.item)
}

func (r *reader) item() api.Item {
	i := api.Item{Op: map[string]int{"const": 1, "wire": 2, "reg": 3, "assign": 4, "comb": 5, "on": 6, "inst": 7, "if": 8, "for": 9, "check": 10}[r.pass().S]}
	switch i.Op {
	case api.ConstI:
		i.Name, i.X = r.name(), r.behind("=")
		r.want(";")
	case api.WireI, api.CheckI:
		i.Name, i.X = r.name(), r.behind(":")
		r.want(";")
	case api.RegI:
		i.Name, i.X = r.name(), r.behind(":", "=")
		r.want(";")
	case api.AssignI:
		i.X = append([]api.X{r.target()}, r.behind("=")...)
		r.want(";")
	case api.CombI, api.TickI:
		r.clocked = i.Op == api.TickI && r.pass().S == "tick"
		i.S = r.block().L
	case api.InstI:
		i.Name = r.name()
		r.want(":")
		i.Of, i.Params = r.name(), r.params()
		i.Binds = round(r, r.bind)
		r.want(";")
	case api.IfI:
		i.X = r.behind("(")
		r.want(")")
		i.L = r.items()
		if r.took("else") {
			i.Else = r.items()
		}
	case api.ForI:
		i.Name = r.name()
		r.want("(")
		i.Of, i.X = r.name(), r.behind("=", "..")
		r.want(")")
		i.L = r.items()
	default:
		panic("no item")
	}
	return i
}

// behind reads an expression behind each of these signs.
func (r *reader) behind(l ...string) []api.X {
	var found []api.X
	for _, s := range l {
		r.want(s)
		found = append(found, r.x())
	}
	return found
}

func (r *reader) block() api.S {
	r.want("{")
	return api.S{Op: api.BlockS, L: until(r, "}", r.s)}
}

func (r *reader) s() api.S {
	switch {
	case r.is("{"):
		return r.block()
	case r.took("if"):
		s := api.S{Op: api.IfS, X: r.behind("(")}
		r.want(")")
		s.L = []api.S{r.block(), {Op: api.BlockS}}
		if r.took("else") {
			if !r.is("if", "{") {
				panic("no block")
			}
			s.L[1] = r.s()
		}
		return s
	case r.took("case"):
		s := api.S{Op: api.CaseS, X: r.behind("(")}
		r.want(")", "{")
		s.L = r.arms()
		return s
	case r.took("for"):
		r.want("(")
		s := api.S{Op: api.ForS, Name: r.name(), X: r.behind("=", "..")}
		r.want(")")
		s.L = r.block().L
		return s
	}
	s := api.S{Op: api.AssignS, X: []api.X{r.target()}}
	s.X = append(s.X, r.behind(map[bool]string{true: "<=", false: "="}[r.clocked])...)
	r.want(";")
	return s
}

func (r *reader) arms() []api.S {
	var l []api.S
	for !r.is("else", "}") {
		arm := api.S{Op: api.ArmS, X: commas(r, r.x)}
		r.want(":")
		arm.L = r.block().L
		l = append(l, arm)
	}
	last := api.S{Op: api.ArmS}
	if r.took("else") {
		r.want(":")
		last.L = r.block().L
	}
	r.want("}")
	return append(l, last)
}

func (r *reader) target() api.X {
	x := api.X{Op: api.NameX, Name: r.name()}
	if r.took("[") {
		x.Op, x.L = api.IndexX, []api.X{r.x()}
		if r.took(":") {
			x.Op, x.L = api.SliceX, append(x.L, r.x())
		}
		r.want("]")
	}
	return x
}

func (r *reader) x() api.X {
	x := r.row(0)
	if r.took("?") {
		x = api.X{Op: api.CondX, L: []api.X{x, r.x()}}
		x.L = append(x.L, r.behind(":")...)
	}
	return x
}

// grammarRows are the operations of each row, the weakest first.
var grammarRows = []map[string]int{
	{"||": api.OneO}, {"&&": api.BothO}, {"|": api.OrO}, {"^": api.XorO}, {"&": api.AndO}, {"==": api.EqO, "!=": api.NeO},
	{"<": api.LtO, "<=": api.LeO, ">": api.GtO, ">=": api.GeO}, {"<<": api.ShlO, ">>": api.ShrO}, {"+": api.AddO, "-": api.SubO}, {"*": api.MulO},
}

func (r *reader) row(k int) api.X {
	if k == len(grammarRows) {
		return r.operand()
	}
	x := r.row(k + 1)
	for len(r.l) > 0 && r.l[0].Kind == api.SignT && grammarRows[k][r.l[0].S] > 0 {
		n := grammarRows[k][r.pass().S]
		x = api.X{Op: api.BinX, N: n, L: []api.X{x, r.row(k + 1)}}
	}
	return x
}

func (r *reader) operand() api.X {
	if r.l[0].Kind == api.NameT {
		return r.target()
	}
	t := r.pass()
	switch t.S {
	case "":
		return api.X{Op: api.NumX, W: t.W, V: t.V}
	case "(":
		x := r.x()
		r.want(")")
		return x
	case "{":
		return r.braces()
	case "zext", "sext", "trunc":
		x := api.X{Op: api.ExtX, N: map[string]int{"zext": api.ZextO, "sext": api.SextO, "trunc": api.CutO}[t.S], L: r.behind("(", ",")}
		r.want(")")
		return x
	}
	n := map[string]int{"~": api.NotO, "-": api.NegO, "&": api.AllO, "|": api.AnyO, "^": api.OddO, "!": api.NoO}[t.S]
	if n == 0 {
		panic("no operand")
	}
	return api.X{Op: api.UnX, N: n, L: []api.X{r.operand()}}
}

func (r *reader) braces() api.X {
	first := r.x()
	if r.took("{") {
		x := api.X{Op: api.RepX, L: []api.X{first, r.x()}}
		r.want("}", "}")
		return x
	}
	x := api.X{Op: api.CatX, L: []api.X{first}}
	if r.took(",") {
		x.L = append(x.L, commas(r, r.x)...)
	}
	r.want("}")
	return x
}
