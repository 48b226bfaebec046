package konst

import (
	"slices"

	"filigree/api"
)

// fewNames is how many names are looked for one by one: to make an index of all constants takes longer.
const fewNames = 8

// constants are found by their names.
type constants struct {
	env    []api.Named
	asked  int
	values map[string]int
}

// find tells what the last constant of a name is, as Lookup does.
func (c *constants) find(name string) (int, bool) {
	if c.asked < fewNames {
		c.asked++
		return Lookup(c.env, name)
	}
	if c.values == nil {
		c.values = index(c.env)
	}
	v, ok := c.values[name]
	return v, ok
}

// index is all constants by their names; a later one takes the place of an earlier one.
func index(env []api.Named) map[string]int {
	values := make(map[string]int, len(env))
	for _, c := range env {
		values[c.Name] = c.V
	}
	return values
}

// putIn makes numbers of all names of an expression that are constants. A name that stays is not gone into: it may have no parts, so they are none of an expression.
func (c *constants) putIn(x api.X) api.X {
	if x.Op != api.NameX {
		return withParts(x, c.putIn)
	}
	if v, ok := c.find(x.Name); ok && mayBe(v) {
		return api.X{Op: api.NumX, V: uint64(v)}
	}
	return copied(x)
}

func copied(x api.X) api.X { return withParts(x, copied) }

// withParts is an expression with a new list of what becomes of its parts.
func withParts(x api.X, become func(part api.X) api.X) api.X {
	x.L = slices.Clone(x.L)
	for i, part := range x.L {
		x.L[i] = become(part)
	}
	return x
}
