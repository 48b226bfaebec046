package ast

import "filigree/api"

// expressionKind is what an expression of a kind has: a name, how many parts, and which operations its N may be.
type expressionKind struct {
	named       bool
	parts       int
	more        bool // parts is the least number of them
	first, last int
}

var expressionKinds = [...]expressionKind{
	api.NumX:   {},
	api.NameX:  {named: true},
	api.SliceX: {named: true, parts: 2},
	api.IndexX: {named: true, parts: 1},
	api.UnX:    {parts: 1, first: api.NotO, last: api.NoO},
	api.BinX:   {parts: 2, first: api.AndO, last: api.OneO},
	api.CondX:  {parts: 3},
	api.CatX:   {parts: 1, more: true},
	api.RepX:   {parts: 2},
	api.ExtX:   {parts: 2, first: api.ZextO, last: api.CutO},
}

// statementKind is what a statement of a kind has: a name, how many expressions (the first one a target), how many statements, and of which kinds these may be.
type statementKind struct {
	named, target bool
	x, l          int
	moreX, moreL  bool // x, l are the least numbers of them
	first, others kinds
}

// kinds is a set of kinds of statements: bit k stands for the kind k.
type kinds uint

const (
	ifs      kinds = 1 << api.IfS
	arms     kinds = 1 << api.ArmS
	blocks   kinds = 1 << api.BlockS
	standing kinds = 1<<api.AssignS | ifs | 1<<api.CaseS | blocks | 1<<api.ForS
)

var statementKinds = [...]statementKind{
	api.AssignS: {target: true, x: 2},
	api.IfS:     {x: 1, l: 2, first: blocks, others: blocks | ifs},
	api.CaseS:   {x: 1, l: 1, moreL: true, first: arms, others: arms},
	api.ArmS:    {moreX: true, moreL: true, first: standing, others: standing},
	api.BlockS:  {moreL: true, first: standing, others: standing},
	api.ForS:    {named: true, x: 2, moreL: true, first: standing, others: standing},
}

// itemKind is what an item of a kind has: a name, what it is of, how many expressions (the first one a target), and any number of which other parts.
type itemKind struct {
	named, of, target    bool
	x                    int
	s, l, instead, binds bool
}

var itemKinds = [...]itemKind{
	api.ConstI:  {named: true, x: 1},
	api.WireI:   {named: true, x: 1},
	api.RegI:    {named: true, x: 2},
	api.AssignI: {target: true, x: 2},
	api.CombI:   {s: true},
	api.TickI:   {s: true},
	api.InstI:   {named: true, of: true, binds: true},
	api.IfI:     {x: 1, l: true, instead: true},
	api.ForI:    {named: true, of: true, x: 2, l: true},
	api.CheckI:  {named: true, x: 1},
}
