package konst_test

import (
	"fmt"
	"testing"

	"filigree/api"
	"filigree/ast"
	"filigree/konst"
)

// chance is numbers that look like chance, and are the same in each run; it makes expressions, most of which are constant.
type chance uint64

func (c *chance) below(n int) int {
	*c = *c*6364136223846793005 + 1442695040888963407
	return int(uint64(*c>>33) % uint64(n))
}

// seldom is so once of so many times.
func (c *chance) seldom(times int) bool { return c.below(times) == 0 }

// name is one of twelve, each with a value of its own; of one there is none.
func (c *chance) name() string { return fmt.Sprint("n", c.below(12)) }

func (c *chance) constant() int {
	return []int{0, 1, 2, 3, c.below(64), c.below(1 << 16), c.below(1 << 31), api.MaxConst}[c.below(8)]
}

// env is constants, some of them told several times; if not fit, some are none.
func (c *chance) env(fit bool) []api.Named {
	var env []api.Named
	for i := range 11 + c.below(20) {
		n := api.Named{Name: c.name(), V: c.constant()}
		if i < 11 {
			n.Name = fmt.Sprint("n", i)
		}
		if !fit && c.seldom(10) {
			n.V = []int{-1, 1 << 31, -c.constant() - 1, c.constant() << 32}[c.below(4)]
		}
		env = append(env, n)
	}
	return env
}

func (c *chance) xs(n, room int) []api.X {
	var l []api.X
	for range n {
		l = append(l, c.x(room))
	}
	return l
}

// x is an expression of at most room more than one node one within the other.
func (c *chance) x(room int) api.X {
	if room <= 0 || c.seldom(12) {
		return c.leaf()
	}
	room--
	switch {
	case c.seldom(60):
		return c.noConstant(room)
	case c.seldom(8):
		return api.X{Op: api.UnX, N: api.NoO, L: c.xs(1, room)}
	case c.seldom(6):
		return api.X{Op: api.CondX, L: c.xs(3, room)}
	}
	return api.X{Op: api.BinX, N: api.AddO + c.below(13), L: c.xs(2, room)}
}

func (c *chance) leaf() api.X {
	if c.seldom(2) {
		return api.X{Op: api.NameX, Name: c.name()}
	}
	x := api.X{Op: api.NumX, V: uint64(c.constant())}
	if c.seldom(40) {
		x.W = 32 + c.below(33)
	} else if c.seldom(40) {
		x.V <<= 30
	}
	return x
}

func (c *chance) noConstant(room int) api.X {
	switch c.below(7) {
	case 0:
		return api.X{Op: api.UnX, N: 1 + c.below(5), L: c.xs(1, room)}
	case 1:
		return api.X{Op: api.BinX, N: 11 + c.below(3), L: c.xs(2, room)}
	case 2:
		return api.X{Op: api.CatX, L: c.xs(1+c.below(3), room)}
	case 3:
		return api.X{Op: api.RepX, L: c.xs(2, room)}
	case 4:
		return api.X{Op: api.IndexX, Name: c.name(), L: c.xs(1, room)}
	case 5:
		return api.X{Op: api.SliceX, Name: c.name(), L: c.xs(2, room)}
	}
	return api.X{Op: api.ExtX, N: 31 + c.below(3), L: c.xs(2, room)}
}

// spoilt is an expression of which something was changed, wherever: most of these may not be.
func (c *chance) spoilt(x api.X) api.X {
	x.L = append([]api.X(nil), x.L...)
	if len(x.L) > 0 && !c.seldom(3) {
		i := c.below(len(x.L))
		x.L[i] = c.spoilt(x.L[i])
		return x
	}
	switch c.below(6) {
	case 0:
		x.Op = c.below(12)
	case 1:
		x.Name = c.name()
	case 2:
		x.N = c.below(34)
	case 3:
		x.W = c.below(66)
	case 4:
		x.V++
	case 5:
		x.L = append(x.L, c.x(2))
	}
	return x
}

// answers holds all calls against the model; that it is no error is told.
func answers(t *testing.T, x api.X, env []api.Named) bool {
	t.Helper()
	want, wantE := modelEval(x, env)
	evals(t, x, env, want, wantE)
	wide, wideE := want, wantE
	if wantE == api.OK && (want == 0 || want > 64) {
		wide, wideE = 0, api.ErrWide
	}
	if w, e := konst.Width(x, env); w != wide || e != wideE {
		t.Errorf("Width %v: %d, error %d, want %d, error %d", brief(x), w, e, wide, wideE)
	}
	bits, bitsE := api.Bits{V: uint64(want)}, wantE
	if x.Op == api.NumX && wantE != api.ErrArg {
		bits, bitsE = api.Bits{W: x.W, V: x.V}, api.OK
	}
	if b, e := konst.Number(x, env); b != bits || e != bitsE {
		t.Errorf("Number %v: %v, error %d, want %v, error %d", brief(x), b, e, bits, bitsE)
	}
	becomes(t, x, env, modelSubst(x, env))
	return wantE == api.OK
}

// TestAgainstTheModel: expressions of chance, and such that were spoilt, are what the chapter's sentences say.
func TestAgainstTheModel(t *testing.T) {
	luck := chance(6)
	found := map[bool]int{}
	for range 40000 {
		x, env := luck.x(luck.below(8)), luck.env(luck.seldom(2))
		found[answers(t, x, env)]++
		answers(t, luck.spoilt(x), env)
		if t.Failed() {
			return
		}
	}
	if found[true] < 4000 || found[false] < 4000 {
		t.Errorf("too few of a kind: %v", found)
	}
}

// TestPutInIsTheSame: with its constants put in an expression is what it was, with and without them.
func TestPutInIsTheSame(t *testing.T) {
	luck := chance(7)
	for range 20000 {
		x, env := luck.x(luck.below(8)), luck.env(true)
		y := konst.Subst(x, env)
		if ast.CheckX(y) != api.OK || !ast.SameX(y, konst.Subst(y, env)) {
			t.Fatalf("%v becomes %v", brief(x), brief(y))
		}
		want, wantE := konst.Eval(x, env)
		bits, bitsE := konst.Number(x, env)
		for _, env := range [][]api.Named{nil, env} {
			evals(t, y, env, want, wantE)
			if b, e := konst.Number(y, env); b != bits || e != bitsE {
				t.Fatalf("Number %v: %v, error %d, want %v, error %d", brief(x), b, e, bits, bitsE)
			}
		}
		if t.Failed() {
			return
		}
	}
}
