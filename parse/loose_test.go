package parse_test

import (
	"strconv"
	"strings"

	"filigree/api"
)

// What stands here writes trees as loosely as the grammar lets it: a part stands in brackets wherever it is a choice or an operation of two, and by chance more than once, or elsewhere; an empty block behind an else is written or not.

var looseSigns = map[int]string{
	api.NotO: "~", api.NegO: "-", api.AllO: "&", api.AnyO: "|", api.OddO: "^", api.NoO: "!",
	api.AndO: "&", api.OrO: "|", api.XorO: "^", api.AddO: "+", api.SubO: "-", api.MulO: "*", api.ShlO: "<<", api.ShrO: ">>",
	api.EqO: "==", api.NeO: "!=", api.LtO: "<", api.LeO: "<=", api.GtO: ">", api.GeO: ">=", api.BothO: "&&", api.OneO: "||",
	api.ZextO: "zext", api.SextO: "sext", api.CutO: "trunc",
}

// loose writes; becomes is the sign of assignments.
type loose struct {
	*chance
	becomes string
}

func join[N any](l []N, between string, one func(n N) string) string {
	var texts []string
	for _, n := range l {
		texts = append(texts, one(n))
	}
	return strings.Join(texts, between)
}

// whole is an expression where any one can stand.
func (w loose) whole(x api.X) string {
	s := w.plain(x)
	for w.below(4) == 0 {
		s = " ( " + s + " ) "
	}
	return s
}

// part is an expression where signs stand around it.
func (w loose) part(x api.X) string {
	if x.Op == api.CondX || x.Op == api.BinX {
		return " ( " + w.whole(x) + " ) "
	}
	return w.whole(x)
}

func (w loose) plain(x api.X) string {
	switch x.Op {
	case api.NumX:
		if x.W == 0 {
			return strconv.FormatUint(x.V, 10)
		}
		return strconv.Itoa(x.W) + "'" + []string{"d" + strconv.FormatUint(x.V, 10), "b" + strconv.FormatUint(x.V, 2), "h" + strconv.FormatUint(x.V, 16)}[w.below(3)]
	case api.NameX:
		return x.Name
	case api.IndexX, api.SliceX:
		return x.Name + " [ " + join(x.L, " : ", w.whole) + " ] "
	case api.UnX:
		return looseSigns[x.N] + " " + w.part(x.L[0])
	case api.BinX:
		return w.part(x.L[0]) + " " + looseSigns[x.N] + " " + w.part(x.L[1])
	case api.CondX:
		return w.part(x.L[0]) + " ? " + w.whole(x.L[1]) + " : " + w.whole(x.L[2])
	case api.CatX:
		return "{ " + join(x.L, " , ", w.whole) + " }"
	case api.RepX:
		return "{ " + w.whole(x.L[0]) + " { " + w.whole(x.L[1]) + " } }"
	}
	return looseSigns[x.N] + " ( " + join(x.L, " , ", w.whole) + " ) "
}

func (w loose) statements(l []api.S) string { return " { " + join(l, " ", w.statement) + " } " }

func (w loose) statement(s api.S) string {
	switch s.Op {
	case api.AssignS:
		return w.plain(s.X[0]) + " " + w.becomes + " " + w.whole(s.X[1]) + " ; "
	case api.IfS:
		return "if ( " + w.whole(s.X[0]) + " ) " + w.statement(s.L[0]) + w.instead("else ", s.L[1].L, w.statement(s.L[1]), s.L[1].Op == api.IfS)
	case api.CaseS:
		last := s.L[len(s.L)-1]
		return "case ( " + w.whole(s.X[0]) + " ) { " + join(s.L[:len(s.L)-1], " ", w.arm) + w.instead("else : ", last.L, w.statements(last.L), false) + " } "
	case api.ForS:
		return "for ( " + s.Name + " = " + join(s.X, " .. ", w.whole) + " ) " + w.statements(s.L)
	}
	return w.statements(s.L)
}

func (w loose) arm(s api.S) string {
	return join(s.X, " , ", w.whole) + " : " + w.statements(s.L)
}

// instead is what stands behind an else: it can be left out, if there is nothing.
func (w loose) instead(word string, l []api.S, text string, always bool) string {
	if len(l) == 0 && !always && w.below(2) == 0 {
		return ""
	}
	return word + text
}

func (w loose) items(l []api.Item) string { return " { " + join(l, " ", w.item) + " } " }

func (w loose) item(i api.Item) string {
	switch i.Op {
	case api.ConstI:
		return "const " + i.Name + " = " + w.whole(i.X[0]) + " ; "
	case api.WireI:
		return "wire " + i.Name + " : " + w.whole(i.X[0]) + " ; "
	case api.RegI:
		return "reg " + i.Name + " : " + join(i.X, " = ", w.whole) + " ; "
	case api.AssignI:
		return "assign " + w.plain(i.X[0]) + " = " + w.whole(i.X[1]) + " ; "
	case api.CombI:
		return "comb " + loose{w.chance, "="}.statements(i.S)
	case api.TickI:
		return "on tick " + loose{w.chance, "<="}.statements(i.S)
	case api.InstI:
		return "inst " + i.Name + " : " + i.Of + w.params(i.Params) + " ( " + join(i.Binds, " , ", w.bind) + " ) ; "
	case api.IfI:
		text := "if ( " + w.whole(i.X[0]) + " ) " + w.items(i.L)
		if len(i.Else) > 0 || w.below(2) == 0 {
			text += " else " + w.items(i.Else)
		}
		return text
	case api.ForI:
		return "for " + i.Name + " ( " + i.Of + " = " + join(i.X, " .. ", w.whole) + " ) " + w.items(i.L)
	}
	return "check " + i.Name + " : " + w.whole(i.X[0]) + " ; "
}

func (w loose) bind(b api.Bind) string { return b.Name + " = " + w.whole(b.X) }

func (w loose) params(l []api.Bind) string {
	if len(l) == 0 {
		return ""
	}
	return " # ( " + join(l, " , ", w.bind) + " ) "
}

func (w loose) port(p api.Port) string {
	return map[bool]string{false: "in ", true: "out "}[p.Out] + p.Name + " : " + w.whole(p.W)
}

func (w loose) module(m api.Module) string {
	return "module " + m.Name + w.params(m.Params) + " ( " + join(m.Ports, " , ", w.port) + " ) " + w.items(m.Items)
}

func (w loose) file(f api.File) string { return join(f.Modules, "\n", w.module) }
