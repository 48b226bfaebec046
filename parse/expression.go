package parse

import (
	"slices"

	"filigree/api"
)

// rows are the operations of two by their signs, row by row, the weakest first.
func rows() []map[string]int {
	return []map[string]int{
		{"||": api.OneO},
		{"&&": api.BothO},
		{"|": api.OrO},
		{"^": api.XorO},
		{"&": api.AndO},
		{"==": api.EqO, "!=": api.NeO},
		{"<": api.LtO, "<=": api.LeO, ">": api.GtO, ">=": api.GeO},
		{"<<": api.ShlO, ">>": api.ShrO},
		{"+": api.AddO, "-": api.SubO},
		{"*": api.MulO},
	}
}

// ahead is the operations of one by their signs.
func ahead() map[string]int {
	return map[string]int{"~": api.NotO, "-": api.NegO, "&": api.AllO, "|": api.AnyO, "^": api.OddO, "!": api.NoO}
}

// widen is the operations that make another width by their words.
func widen() map[string]int {
	return map[string]int{"zext": api.ZextO, "sext": api.SextO, "trunc": api.CutO}
}

// expression is a choice, or what is stronger. Of the choices that are begun, each with its parts, the last one goes on.
func (r *reader) expression() api.X {
	var begun [][]api.X
	for {
		x := r.row(0)
		if r.took("?") {
			begun = append(begun, []api.X{x})
			continue
		}
		x, begun = whole(x, begun)
		if len(begun) == 0 {
			return x
		}
		r.want(":")
		last := len(begun) - 1
		begun[last] = append(begun[last], x)
	}
}

// whole ends the choices to which an expression is the third part, the last one first; what comes of them, and which ones are left, is told.
func whole(x api.X, begun [][]api.X) (api.X, [][]api.X) {
	for n := len(begun); n > 0 && len(begun[n-1]) == 2; n-- {
		if n <= api.MaxDeep {
			x = api.X{Op: api.CondX, L: append(begun[n-1], x)}
		}
		begun = begun[:n-1]
	}
	return x, begun
}

// row is operands with signs of that row, or of a stronger one, between.
func (r *reader) row(k int) api.X {
	if k == len(r.rows) {
		return r.operand()
	}
	x := r.row(k + 1)
row:
	for depth := 1; ; depth++ {
		n, ok := r.rows[k][r.next().S]
		switch {
		case !ok:
			break row
		case depth <= api.MaxDeep:
			r.at++
			x = api.X{Op: api.BinX, N: n, L: []api.X{x, r.row(k + 1)}}
		default:
			r.at++
			r.row(k + 1)
		}
	}
	return x
}

// operand is what has no sign behind it, with the signs ahead of it.
func (r *reader) operand() api.X {
	var operations []int
	for n := r.ahead[r.next().S]; n > 0; n = r.ahead[r.next().S] {
		r.at++
		if len(operations) < api.MaxDeep {
			operations = append(operations, n)
		}
	}
	x := r.primary()
	for _, n := range slices.Backward(operations) {
		x = api.X{Op: api.UnX, N: n, L: []api.X{x}}
	}
	return x
}

func (r *reader) primary() api.X {
	t := r.next()
	switch {
	case t.Kind == api.NumT:
		r.at++
		return api.X{Op: api.NumX, W: t.W, V: t.V}
	case t.Kind == api.NameT:
		return r.target()
	case r.is("("):
		return r.inside("(", ")")
	case r.is("{"):
		return r.parts()
	case r.widen[t.S] > 0:
		return r.extension()
	}
	panic(r.wrong())
}

// target is a name, or one bit of it, or some.
func (r *reader) target() api.X {
	x := api.X{Op: api.NameX, Name: r.name()}
	if r.is("[") {
		r.within("[", "]", func() {
			x.Op, x.L = api.IndexX, []api.X{r.expression()}
			if r.is(":") {
				x.Op, x.L = api.SliceX, append(x.L, r.behind(":")...)
			}
		})
	}
	return x
}

// parts is those that stand between { and }, or the one that stands there so many times.
func (r *reader) parts() api.X {
	x := api.X{Op: api.CatX}
	r.within("{", "}", func() {
		x.L = list(r, (*reader).expression)
		if len(x.L) == 1 && r.is("{") {
			x.Op, x.L = api.RepX, append(x.L, r.inside("{", "}"))
		}
	})
	return x
}

// extension is an expression that is made so wide.
func (r *reader) extension() api.X {
	x := api.X{Op: api.ExtX, N: r.widen[r.next().S]}
	r.at++
	r.within("(", ")", func() {
		x.L = []api.X{r.expression()}
		x.L = append(x.L, r.behind(",")...)
	})
	return x
}
