package spell

import "filigree/api"

// Ranks tell how fast an expression holds together: a choice least, then operations of two by the row of their sign, all others most.
const (
	choice  = 0
	binary  = 1  // the first row
	primary = 11 // behind the last row
)

// operation is the sign of an operation, and of one of two operands its row.
type operation struct {
	sign string
	row  int
}

var operations = [...]operation{
	api.NotO:  {"~", 0},
	api.NegO:  {"-", 0},
	api.AllO:  {"&", 0},
	api.AnyO:  {"|", 0},
	api.OddO:  {"^", 0},
	api.NoO:   {"!", 0},
	api.OneO:  {"||", 1},
	api.BothO: {"&&", 2},
	api.OrO:   {"|", 3},
	api.XorO:  {"^", 4},
	api.AndO:  {"&", 5},
	api.EqO:   {"==", 6},
	api.NeO:   {"!=", 6},
	api.LtO:   {"<", 7},
	api.LeO:   {"<=", 7},
	api.GtO:   {">", 7},
	api.GeO:   {">=", 7},
	api.ShlO:  {"<<", 8},
	api.ShrO:  {">>", 8},
	api.AddO:  {"+", 9},
	api.SubO:  {"-", 9},
	api.MulO:  {"*", 10},
}

// extensions are the words of the operations from ZextO on.
var extensions = [...]string{"zext", "sext", "trunc"}

func expression(x api.X) tokens {
	switch x.Op {
	case api.NumX:
		return number(x.W, x.V)
	case api.SliceX:
		return chain(name(x.Name), square(span(x.L, ":")))
	case api.IndexX:
		return chain(name(x.Name), square(expression(x.L[0])))
	case api.UnX:
		return chain(sign(operations[x.N].sign), operand(x.L[0], primary))
	case api.BinX:
		o := operations[x.N]
		// Of one row operations belong together from the left: only a second operand of the same row needs its brackets.
		return chain(operand(x.L[0], o.row), sign(o.sign), operand(x.L[1], o.row+1))
	case api.CondX:
		return chain(operand(x.L[0], binary), sign("?"), span(x.L[1:], ":"))
	case api.CatX:
		return curly(list(x.L, expression))
	case api.RepX:
		return curly(chain(expression(x.L[0]), curly(expression(x.L[1]))))
	case api.ExtX:
		return chain(word(extensions[x.N-api.ZextO]), round(list(x.L, expression)))
	}
	return name(x.Name)
}

// operand is an expression, between brackets if its rank is below the least one that can stand there without.
func operand(x api.X, least int) tokens {
	if rank(x) < least {
		return round(expression(x))
	}
	return expression(x)
}

func rank(x api.X) int {
	switch x.Op {
	case api.CondX:
		return choice
	case api.BinX:
		return operations[x.N].row
	}
	return primary
}

// span is two expressions with a sign between.
func span(l []api.X, between string) tokens {
	return chain(expression(l[0]), sign(between), expression(l[1]))
}
