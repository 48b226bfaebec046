package ast

import (
	"filigree/api"
	"filigree/scan"
)

func mayBeModule(m api.Module) bool {
	return isName(m.Name) && all(m.Params, mayBeBind) && all(m.Ports, mayBePort) && all(m.Items, mayBeItem)
}

func mayBeBind(b api.Bind) bool {
	return isName(b.Name) && mayBeX(b.X)
}

func mayBePort(p api.Port) bool {
	return isName(p.Name) && mayBeX(p.W)
}

func mayBeItem(i api.Item) bool {
	if !among(i.Op, len(itemKinds)) {
		return false
	}
	k := itemKinds[i.Op]
	return nameFits(i.Name, k.named) && nameFits(i.Of, k.of) &&
		len(i.X) == k.x && all(i.X, mayBeX) && (!k.target || hasName(i.X[0])) &&
		countFits(len(i.S), 0, k.s) && all(i.S, mayStand) &&
		countFits(len(i.L), 0, k.l) && all(i.L, mayBeItem) &&
		countFits(len(i.Else), 0, k.instead) && all(i.Else, mayBeItem) &&
		countFits(len(i.Params), 0, k.binds) && all(i.Params, mayBeBind) &&
		countFits(len(i.Binds), 0, k.binds) && all(i.Binds, mayBeBind)
}

// mayStand tells whether a statement may be, and stand by itself.
func mayStand(s api.S) bool {
	return s.Op != api.ArmS && mayBeS(s)
}

// mayBeS tells whether a statement may be; of an arm its case tells whether it has labels.
func mayBeS(s api.S) bool {
	if !among(s.Op, len(statementKinds)) {
		return false
	}
	k := statementKinds[s.Op]
	return nameFits(s.Name, k.named) &&
		countFits(len(s.X), k.x, k.moreX) && all(s.X, mayBeX) && (!k.target || hasName(s.X[0])) &&
		countFits(len(s.L), k.l, k.moreL) && all(s.L, mayBeS) && kindsFit(s.L, k) &&
		(s.Op != api.CaseS || labelsFit(s.L))
}

// kindsFit tells whether the parts of a statement, which may be, are of the kinds that it may have.
func kindsFit(l []api.S, k statementKind) bool {
	fit := k.first
	for _, s := range l {
		if fit&(1<<s.Op) == 0 {
			return false
		}
		fit = k.others
	}
	return true
}

// labelsFit tells whether all arms of a case but the last one have labels.
func labelsFit(l []api.S) bool {
	for i, arm := range l {
		isLast := i == len(l)-1
		if isLast != (len(arm.X) == 0) {
			return false
		}
	}
	return true
}

func mayBeX(x api.X) bool {
	if !among(x.Op, len(expressionKinds)) {
		return false
	}
	k := expressionKinds[x.Op]
	return nameFits(x.Name, k.named) && numberFits(x) && k.first <= x.N && x.N <= k.last &&
		countFits(len(x.L), k.parts, k.more) && all(x.L, mayBeX)
}

// numberFits tells whether a number has a value that its width holds, and any other expression none.
func numberFits(x api.X) bool {
	if x.Op != api.NumX {
		return x.W == 0 && x.V == 0
	}
	return scan.Check(api.Token{Kind: api.NumT, W: x.W, V: x.V}) == api.OK
}

// hasName tells whether an expression is of a kind that has a name: just these are targets.
func hasName(x api.X) bool {
	return among(x.Op, len(expressionKinds)) && expressionKinds[x.Op].named
}

// nameFits tells whether what has a name has one that may be, and what has none has none.
func nameFits(name string, named bool) bool {
	if named {
		return isName(name)
	}
	return name == ""
}

func isName(s string) bool {
	return scan.Check(api.Token{Kind: api.NameT, S: s}) == api.OK
}

// countFits tells whether there are n parts, or, where there may be more, at least so many.
func countFits(count, n int, more bool) bool {
	return count == n || more && count > n
}

// among tells whether a kind stands in a table of so many rows, whose first one stands for no kind.
func among(op, rows int) bool {
	return 1 <= op && op < rows
}

func all[N any](l []N, so func(n N) bool) bool {
	for _, n := range l {
		if !so(n) {
			return false
		}
	}
	return true
}
