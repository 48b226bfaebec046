package parse_test

import (
	"strings"

	"filigree/api"
	"filigree/scan"
)

// chance is numbers that look like chance, and are the same in each run; it makes trees that may be, and writes them in ways that layer 4 does not: with brackets and empty blocks that could be left out.
type chance uint64

func (c *chance) below(n int) int {
	*c = *c*6364136223846793005 + 1442695040888963407
	return int(uint64(*c>>33) % uint64(n))
}

func (c *chance) name() string {
	return []string{"a", "b", "c", "_x", "Q9", "ins", "modul", strings.Repeat("long", 16)}[c.below(8)]
}

// some is a list of up to so many.
func some[N any](c *chance, most int, one func(room int) N, room int) []N {
	var l []N
	for range c.below(most + 1) {
		l = append(l, one(room))
	}
	return l
}

func (c *chance) xs(n, room int) []api.X {
	var l []api.X
	for range n {
		l = append(l, c.x(room))
	}
	return l
}

// x is an expression of at most room more than one node one within the other.
func (c *chance) x(room int) api.X {
	if room <= 0 {
		return []api.X{c.number(), {Op: api.NameX, Name: c.name()}}[c.below(2)]
	}
	room--
	switch 1 + c.below(12) {
	case api.NumX:
		return c.number()
	case api.UnX:
		return api.X{Op: api.UnX, N: 1 + c.below(6), L: c.xs(1, room)}
	case api.CondX:
		return api.X{Op: api.CondX, L: c.xs(3, room)}
	case api.CatX:
		return api.X{Op: api.CatX, L: c.xs(1+c.below(4), room)}
	case api.RepX:
		return api.X{Op: api.RepX, L: c.xs(2, room)}
	case api.ExtX:
		return api.X{Op: api.ExtX, N: 31 + c.below(3), L: c.xs(2, room)}
	case api.NameX, api.IndexX, api.SliceX:
		return c.target(room)
	}
	return api.X{Op: api.BinX, N: 11 + c.below(16), L: c.xs(2, room)}
}

func (c *chance) number() api.X {
	v := uint64(c.below(1<<31))<<33 ^ uint64(c.below(1<<31))
	w := c.below(65)
	if w > 0 {
		v >>= uint(64 - w)
	}
	return api.X{Op: api.NumX, W: w, V: v}
}

func (c *chance) target(room int) api.X {
	kind := api.NameX + c.below(3)
	return api.X{Op: kind, Name: c.name(), L: c.xs(map[int]int{api.SliceX: 2, api.IndexX: 1}[kind], room)}
}

func (c *chance) block(room int) api.S {
	return api.S{Op: api.BlockS, L: some(c, 3, c.s, room-1)}
}

// s is a statement that is no arm.
func (c *chance) s(room int) api.S {
	if room <= 0 {
		return api.S{Op: api.BlockS}
	}
	switch c.below(5) {
	case 0:
		return c.choice(room)
	case 1:
		return api.S{Op: api.CaseS, X: c.xs(1, room-1), L: append(some(c, 3, c.arm, room-1), api.S{Op: api.ArmS, L: some(c, 2, c.s, room-2)})}
	case 2:
		return c.block(room)
	case 3:
		return api.S{Op: api.ForS, Name: c.name(), X: c.xs(2, room-1), L: some(c, 3, c.s, room-1)}
	}
	return api.S{Op: api.AssignS, X: []api.X{c.target(room - 1), c.x(room - 1)}}
}

func (c *chance) choice(room int) api.S {
	s := api.S{Op: api.IfS, X: c.xs(1, room-1), L: []api.S{c.block(room - 1), c.block(room - 1)}}
	if room > 1 && c.below(2) == 0 {
		s.L[1] = c.choice(room - 1)
	}
	return s
}

func (c *chance) arm(room int) api.S {
	return api.S{Op: api.ArmS, X: c.xs(1+c.below(3), room-1), L: some(c, 2, c.s, room-1)}
}

func (c *chance) item(room int) api.Item {
	i := api.Item{Op: 1 + c.below(10), Name: c.name()}
	if room <= 0 {
		i.Op = api.WireI
	}
	room--
	switch i.Op {
	case api.ConstI, api.WireI, api.CheckI:
		i.X = c.xs(1, room)
	case api.RegI:
		i.X = c.xs(2, room)
	case api.AssignI:
		i.Name, i.X = "", []api.X{c.target(room), c.x(room)}
	case api.CombI, api.TickI:
		i.Name, i.S = "", some(c, 3, c.s, room)
	case api.InstI:
		i.Of, i.Params, i.Binds = c.name(), some(c, 2, c.bind, room), some(c, 2, c.bind, room)
	case api.IfI:
		i.Name, i.X, i.L, i.Else = "", c.xs(1, room), some(c, 2, c.item, room), some(c, 2, c.item, room)
	case api.ForI:
		i.Of, i.X, i.L = c.name(), c.xs(2, room), some(c, 2, c.item, room)
	}
	return i
}

func (c *chance) bind(room int) api.Bind { return api.Bind{Name: c.name(), X: c.x(room - 1)} }

func (c *chance) port(room int) api.Port {
	return api.Port{Name: c.name(), Out: c.below(2) == 0, W: c.x(room - 1)}
}

func (c *chance) module(room int) api.Module {
	return api.Module{Name: c.name(), Params: some(c, 2, c.bind, room), Ports: some(c, 3, c.port, room), Items: some(c, 4, c.item, room)}
}

func (c *chance) file(room int) api.File { return api.File{Modules: some(c, 3, c.module, room)} }

// text is tokens, with blanks and comments between, and where each one begins.
func (c *chance) text(l []api.Token) ([]byte, []int) {
	text := []byte(c.gap())
	var places []int
	for _, t := range l {
		places = append(places, len(text))
		one, _ := scan.Text([]api.Token{t})
		text = append(append(text, one...), c.gap()...)
		if t.Kind != api.SignT || !strings.Contains("()[]{};,?~", t.S) {
			text = append(text, ' ')
		}
	}
	return text, places
}

func (c *chance) gap() string {
	return []string{"", "", "", " ", "\t", "\n", "\r\n  ", "// a $ {\n", " //\n"}[c.below(9)]
}

// token is one that may be.
func (c *chance) token() api.Token {
	const words = "module in out wire reg const assign comb on tick inst if else for check case zext sext trunc"
	const signs = "# ( ) , { } = : ; [ ] ? | ^ & < > + - * ~ ! .. <= >= || && == != << >>"
	switch c.below(6) {
	case 0:
		return api.Token{Kind: api.NameT, S: c.name()}
	case 1:
		return api.Token{Kind: api.NumT, W: 8, V: uint64(c.below(256))}
	case 2:
		l := strings.Fields(words)
		return api.Token{Kind: api.WordT, S: l[c.below(len(l))]}
	}
	l := strings.Fields(signs)
	return api.Token{Kind: api.SignT, S: l[c.below(len(l))]}
}
