package parse_test

import (
	"slices"
	"strings"
	"testing"

	"filigree/api"
)

// The model of rows splits operands and signs at the last sign of the weakest row: it goes from the root down, where the package goes from the operands up.

var signRows = []string{"||", "&&", "|", "^", "&", "== !=", "< <= > >=", "<< >>", "+ -", "*"}

var signsOfTwo = map[string]int{
	"||": api.OneO, "&&": api.BothO, "|": api.OrO, "^": api.XorO, "&": api.AndO, "==": api.EqO, "!=": api.NeO,
	"<": api.LtO, "<=": api.LeO, ">": api.GtO, ">=": api.GeO, "<<": api.ShlO, ">>": api.ShrO, "+": api.AddO, "-": api.SubO, "*": api.MulO,
}

func allSigns() []string { return strings.Fields(strings.Join(signRows, " ")) }

// split is the tree of operands with signs between.
func split(operands []api.X, signs []string) api.X {
	for _, row := range signRows {
		for at, sign := range slices.Backward(signs) {
			if slices.Contains(strings.Fields(row), sign) {
				return bin(split(operands[:at+1], signs[:at]), signsOfTwo[sign], split(operands[at+1:], signs[at+1:]))
			}
		}
	}
	return operands[0]
}

// readsRow wants these signs between a, b, c and so on to be read as the model does.
func readsRow(t *testing.T, signs ...string) {
	t.Helper()
	text, operands := "a", []api.X{a}
	for i, sign := range signs {
		operand := string(rune('b' + i))
		text += sign + operand
		operands = append(operands, name(operand))
	}
	readsX(t, text, split(operands, signs))
}

func TestEachSign(t *testing.T) {
	if len(allSigns()) != len(signsOfTwo) {
		t.Error(allSigns())
	}
	for sign, n := range signsOfTwo {
		readsX(t, "a"+sign+"b", bin(a, n, b))
		readsX(t, "a"+sign+"b"+sign+"c", bin(bin(a, n, b), n, c))
		readsX(t, "a"+sign+"(b"+sign+"c)", bin(a, n, bin(b, n, c)))
		readsX(t, "a"+sign+"b?c:d", cond(bin(a, n, b), c, d))
		readsX(t, "a?b:c"+sign+"d", cond(a, b, bin(c, n, d)))
		readsX(t, "a?b"+sign+"c:d", cond(a, bin(b, n, c), d))
		readsX(t, "{a"+sign+"b{c"+sign+"d}}", rep(bin(a, n, b), bin(c, n, d)))
	}
}

func TestRows(t *testing.T) {
	readsX(t, "a||b&&c|d^a&b==c<d<<a+b*c", bin(a, api.OneO, bin(b, api.BothO, bin(c, api.OrO, bin(d, api.XorO, bin(a, api.AndO, bin(b, api.EqO, bin(c, api.LtO, bin(d, api.ShlO, bin(a, api.AddO, bin(b, api.MulO, c)))))))))))
	readsX(t, "a*b+c<<d<a==b&c^d|a&&b||c", bin(bin(bin(bin(bin(bin(bin(bin(bin(bin(a, api.MulO, b), api.AddO, c), api.ShlO, d), api.LtO, a), api.EqO, b), api.AndO, c), api.XorO, d), api.OrO, a), api.BothO, b), api.OneO, c))
	for _, one := range allSigns() {
		for _, two := range allSigns() {
			readsRow(t, one, two)
			for _, three := range allSigns() {
				readsRow(t, one, two, three)
			}
		}
	}
}

func TestLongRows(t *testing.T) {
	luck := chance(5)
	for range 2000 {
		var signs []string
		for range luck.below(24) {
			signs = append(signs, allSigns()[luck.below(len(allSigns()))])
		}
		readsRow(t, signs...)
	}
}
