package spell_test

import (
	"fmt"
	"slices"
	"strconv"
	"strings"
	"testing"

	"filigree/api"
)

// The model writes trees as texts, with a blank between each two tokens, and numbers as width'value, by the chapter's sentences one by one; the tokens are got by splitting these texts.

const modelWords = "module in out wire reg const assign comb on tick inst if else for check case zext sext trunc"

var modelSigns = map[int]string{
	api.NotO: "~", api.NegO: "-", api.AllO: "&", api.AnyO: "|", api.OddO: "^", api.NoO: "!",
	api.AndO: "&", api.OrO: "|", api.XorO: "^", api.AddO: "+", api.SubO: "-", api.MulO: "*", api.ShlO: "<<", api.ShrO: ">>",
	api.EqO: "==", api.NeO: "!=", api.LtO: "<", api.LeO: "<=", api.GtO: ">", api.GeO: ">=", api.BothO: "&&", api.OneO: "||",
	api.ZextO: "zext", api.SextO: "sext", api.CutO: "trunc",
}

var modelRows = []string{"||", "&&", "|", "^", "&", "== !=", "< <= > >=", "<< >>", "+ -", "*"}

func modelRow(x api.X) int {
	return 1 + slices.IndexFunc(modelRows, func(row string) bool { return slices.Contains(strings.Fields(row), modelSigns[x.N]) })
}

func modelTokens(s string) []api.Token {
	var l []api.Token
	for _, field := range strings.Fields(s) {
		l = append(l, modelToken(field))
	}
	return l
}

func modelToken(field string) api.Token {
	first := field[0]
	switch {
	case slices.Contains(strings.Fields(modelWords), field):
		return api.Token{Kind: api.WordT, S: field}
	case '0' <= first && first <= '9':
		width, value, _ := strings.Cut(field, "'")
		w, _ := strconv.Atoi(width)
		v, _ := strconv.ParseUint(value, 10, 64)
		return api.Token{Kind: api.NumT, W: w, V: v}
	case first == '_' || 'a' <= first && first <= 'z' || 'A' <= first && first <= 'Z':
		return api.Token{Kind: api.NameT, S: field}
	}
	return api.Token{Kind: api.SignT, S: field}
}

func modelFile(f api.File) string { return modelEach(f.Modules, modelModule) }

func modelEach[N any](l []N, one func(n N) string) string { return modelJoin(l, " ", one) }

func modelList[N any](l []N, one func(n N) string) string { return modelJoin(l, " , ", one) }

func modelJoin[N any](l []N, between string, one func(n N) string) string {
	var texts []string
	for _, n := range l {
		texts = append(texts, one(n))
	}
	return strings.Join(texts, between)
}

func modelModule(m api.Module) string {
	return fmt.Sprintf("module %s %s ( %s ) { %s }", m.Name, modelParams(m.Params), modelList(m.Ports, modelPort), modelEach(m.Items, modelItem))
}

func modelParams(l []api.Bind) string {
	if len(l) > 0 {
		return fmt.Sprintf("# ( %s )", modelList(l, modelBind))
	}
	return ""
}

func modelBind(b api.Bind) string { return fmt.Sprintf("%s = %s", b.Name, modelX(b.X)) }

func modelPort(p api.Port) string {
	return fmt.Sprintf("%s %s : %s", map[bool]string{true: "out", false: "in"}[p.Out], p.Name, modelX(p.W))
}

func modelItem(i api.Item) string {
	x := append(modelParts(i.X), "", "")
	switch i.Op {
	case api.ConstI:
		return fmt.Sprintf("const %s = %s ;", i.Name, x[0])
	case api.WireI:
		return fmt.Sprintf("wire %s : %s ;", i.Name, x[0])
	case api.RegI:
		return fmt.Sprintf("reg %s : %s = %s ;", i.Name, x[0], x[1])
	case api.AssignI:
		return fmt.Sprintf("assign %s = %s ;", x[0], x[1])
	case api.CombI:
		return fmt.Sprintf("comb { %s }", modelEach(i.S, modelS(false)))
	case api.TickI:
		return fmt.Sprintf("on tick { %s }", modelEach(i.S, modelS(true)))
	case api.InstI:
		return fmt.Sprintf("inst %s : %s %s ( %s ) ;", i.Name, i.Of, modelParams(i.Params), modelList(i.Binds, modelBind))
	case api.IfI:
		s := fmt.Sprintf("if ( %s ) { %s }", x[0], modelEach(i.L, modelItem))
		if len(i.Else) > 0 {
			s += fmt.Sprintf(" else { %s }", modelEach(i.Else, modelItem))
		}
		return s
	case api.ForI:
		return fmt.Sprintf("for %s ( %s = %s .. %s ) { %s }", i.Name, i.Of, x[0], x[1], modelEach(i.L, modelItem))
	case api.CheckI:
		return fmt.Sprintf("check %s : %s ;", i.Name, x[0])
	}
	panic("no item")
}

func modelS(clocked bool) func(s api.S) string {
	return func(s api.S) string {
		one := modelS(clocked)
		x := append(modelParts(s.X), "")
		switch s.Op {
		case api.AssignS:
			return fmt.Sprintf("%s %s %s ;", x[0], map[bool]string{true: "<=", false: "="}[clocked], x[1])
		case api.IfS:
			text := fmt.Sprintf("if ( %s ) %s", x[0], one(s.L[0]))
			if s.L[1].Op == api.IfS || s.L[1].Op == api.BlockS && len(s.L[1].L) > 0 {
				text += " else " + one(s.L[1])
			}
			return text
		case api.CaseS:
			return fmt.Sprintf("case ( %s ) { %s }", x[0], modelEach(s.L, one))
		case api.ArmS:
			labels := modelList(s.X, modelX)
			if len(s.X) == 0 && len(s.L) == 0 {
				return ""
			} else if len(s.X) == 0 {
				labels = "else"
			}
			return fmt.Sprintf("%s : { %s }", labels, modelEach(s.L, one))
		case api.BlockS:
			return fmt.Sprintf("{ %s }", modelEach(s.L, one))
		case api.ForS:
			return fmt.Sprintf("for ( %s = %s .. %s ) { %s }", s.Name, x[0], x[1], modelEach(s.L, one))
		}
		panic("no statement")
	}
}

func modelParts(l []api.X) []string {
	var texts []string
	for _, x := range l {
		texts = append(texts, modelX(x))
	}
	return texts
}

func modelX(x api.X) string {
	l := modelParts(x.L)
	for k, part := range x.L {
		if modelBracketed(part, x, k) {
			l[k] = "( " + l[k] + " )"
		}
	}
	switch x.Op {
	case api.NumX:
		return fmt.Sprintf("%d'%d", x.W, x.V)
	case api.NameX:
		return x.Name
	case api.IndexX:
		return fmt.Sprintf("%s [ %s ]", x.Name, l[0])
	case api.SliceX:
		return fmt.Sprintf("%s [ %s : %s ]", x.Name, l[0], l[1])
	case api.UnX:
		return fmt.Sprintf("%s %s", modelSigns[x.N], l[0])
	case api.BinX:
		return fmt.Sprintf("%s %s %s", l[0], modelSigns[x.N], l[1])
	case api.CondX:
		return fmt.Sprintf("%s ? %s : %s", l[0], l[1], l[2])
	case api.CatX:
		return fmt.Sprintf("{ %s }", strings.Join(l, " , "))
	case api.RepX:
		return fmt.Sprintf("{ %s { %s } }", l[0], l[1])
	case api.ExtX:
		return fmt.Sprintf("%s ( %s , %s )", modelSigns[x.N], l[0], l[1])
	}
	panic("no expression")
}

// modelBracketed tells whether part k of an expression stands between brackets.
func modelBracketed(part, of api.X, k int) bool {
	if part.Op == api.CondX {
		return of.Op == api.CondX && k == 0 || of.Op == api.BinX || of.Op == api.UnX
	}
	if part.Op != api.BinX || of.Op != api.BinX {
		return part.Op == api.BinX && of.Op == api.UnX
	}
	if k == 0 {
		return modelRow(of) > modelRow(part)
	}
	return !(modelRow(of) < modelRow(part))
}

// The model's own words are what the chapter writes.
func TestModel(t *testing.T) {
	for want, got := range map[int]int{
		1: modelRow(api.X{N: api.OneO}), 2: modelRow(api.X{N: api.BothO}), 3: modelRow(api.X{N: api.OrO}), 4: modelRow(api.X{N: api.XorO}), 5: modelRow(api.X{N: api.AndO}),
		6: modelRow(api.X{N: api.NeO}), 7: modelRow(api.X{N: api.GeO}), 8: modelRow(api.X{N: api.ShlO}), 9: modelRow(api.X{N: api.SubO}), 10: modelRow(api.X{N: api.MulO}),
	} {
		if got != want {
			t.Errorf("row %d, want %d", got, want)
		}
	}
	want := []api.Token{{Kind: api.WordT, S: "if"}, {Kind: api.NameT, S: "_a"}, {Kind: api.NumT, W: 8, V: 3}, {Kind: api.NumT, V: 9}, {Kind: api.SignT, S: "<="}}
	if got := modelTokens("if _a 8'3  0'9 <="); !slices.Equal(got, want) {
		t.Error(got)
	}
}
