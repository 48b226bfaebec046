package ast_test

import (
	"reflect"
	"slices"
	"testing"

	"filigree/api"
	"filigree/ast"
)

func slotOf[N any](tree *N) reflect.Value { return reflect.ValueOf(tree).Elem() }

// sames holds Same, SameX or SameS against what is wanted, from both sides.
func sames[N any](t *testing.T, want bool, same func(a, b N) bool, a, b N) {
	t.Helper()
	if same(a, b) != want || same(b, a) != want {
		t.Errorf("%s and %s: the same is %v, want %v", brief(a), brief(b), !want, want)
	}
}

func TestNilAndEmptyAreTheSame(t *testing.T) {
	a, b := name("a"), name("a")
	b.L = []api.X{}
	sames(t, true, ast.SameX, a, b)
	sames(t, true, ast.SameX, op(api.UnX, api.NotO, a), op(api.UnX, api.NotO, b))
	sames(t, true, ast.SameS, api.S{Op: api.BlockS}, api.S{Op: api.BlockS, X: []api.X{}, L: []api.S{}})
	sames(t, true, ast.Same, api.File{}, api.File{Modules: []api.Module{}})
	sames(t, true, ast.Same, api.File{Modules: []api.Module{{Name: "m"}}}, api.File{Modules: []api.Module{{Name: "m", Params: []api.Bind{}, Ports: []api.Port{}, Items: []api.Item{}}}})
	sames(t, true, ast.Same, items(api.Item{Op: 1}), items(api.Item{Op: 1, X: []api.X{}, S: []api.S{}, L: []api.Item{}, Else: []api.Item{}, Params: []api.Bind{}, Binds: []api.Bind{}}))
}

// TestSameOfZeros: whatever may be is compared, trees that may not be, too.
func TestSameOfZeros(t *testing.T) {
	sames(t, true, ast.SameX, api.X{}, api.X{})
	sames(t, true, ast.SameS, api.S{}, api.S{})
	sames(t, true, ast.Same, api.File{}, api.File{})
	sames(t, true, ast.SameX, api.X{Op: -1, Name: "in", N: 99, W: -5, V: 7, L: []api.X{{}}}, api.X{Op: -1, Name: "in", N: 99, W: -5, V: 7, L: []api.X{{}}})
	sames(t, false, ast.SameX, api.X{L: []api.X{{}}}, api.X{})
	sames(t, false, ast.SameX, api.X{L: []api.X{{}}}, api.X{L: []api.X{{}, {}}})
	sames(t, false, ast.SameS, api.S{L: []api.S{{}}}, api.S{})
	sames(t, false, ast.SameS, api.S{X: []api.X{{}}}, api.S{})
	sames(t, false, ast.Same, api.File{Modules: []api.Module{{}}}, api.File{})
	sames(t, false, ast.SameX, op(api.BinX, api.AddO, name("a"), name("b")), op(api.BinX, api.AddO, name("b"), name("a")))
}

// full is a file in which each list of each kind of node has two elements.
func full() api.File {
	x := []api.X{{Op: 1, Name: "x", N: 2, W: 3, V: 4, L: []api.X{name("a"), name("b")}}, name("c")}
	s := []api.S{{Op: 1, Name: "s", X: x, L: []api.S{{Op: 2}, {Op: 3}}}, {Op: 4}}
	binds := []api.Bind{{Name: "p", X: x[0]}, {Name: "q", X: x[1]}}
	l := []api.Item{{Op: 5}, {Op: 6}}
	i := api.Item{Op: 1, Name: "i", Of: "o", X: x, S: s, L: l, Else: l, Params: binds, Binds: binds}
	m := api.Module{Name: "m", Params: binds, Ports: []api.Port{{Name: "p", Out: true, W: x[0]}, {Name: "q", W: x[1]}}, Items: []api.Item{i, {Op: 7}}}
	return clone(api.File{Modules: []api.Module{m, {Name: "n"}}})
}

// other sets a field to something that it was not.
func other(field reflect.Value) {
	switch field.Kind() {
	case reflect.Int:
		field.SetInt(field.Int() + 1)
	case reflect.Uint64:
		field.SetUint(field.Uint() ^ 1<<63)
	case reflect.String:
		field.SetString(field.String() + "x")
	case reflect.Bool:
		field.SetBool(!field.Bool())
	case reflect.Slice:
		if n := field.Len(); n > 0 {
			field.Set(field.Slice(0, n-1))
		} else {
			field.Set(reflect.MakeSlice(field.Type(), 1, 1))
		}
	}
}

func TestEachFieldCounts(t *testing.T) {
	count := len(places(slotOf(&api.File{Modules: full().Modules})))
	if count < 200 {
		t.Fatal(count)
	}
	for k := range count {
		f, g := full(), full()
		sames(t, true, ast.Same, f, g)
		other(places(slotOf(&g))[k])
		sames(t, false, ast.Same, f, g)
	}
	for _, x := range []api.X{full().Modules[0].Items[0].X[0]} {
		for k := range places(slotOf(&x)) {
			y := clone(x)
			sames(t, true, ast.SameX, x, y)
			other(places(slotOf(&y))[k])
			sames(t, false, ast.SameX, x, y)
		}
	}
	for _, s := range full().Modules[0].Items[0].S {
		for k := range places(slotOf(&s)) {
			u := clone(s)
			sames(t, true, ast.SameS, s, u)
			other(places(slotOf(&u))[k])
			sames(t, false, ast.SameS, s, u)
		}
	}
}

// changed tells what the calls tell of trees that chance makes and changes, against the model.
func changed[N any](t *testing.T, c *chance, make func(room int) N, check, model func(N) api.Errno, same func(a, b N) bool) {
	t.Helper()
	seen := map[api.Errno]int{}
	for range 2000 {
		tree := make(1 + c.below(5))
		old := clone(tree)
		for range 1 + c.below(2) {
			if l := places(slotOf(&tree)); len(l) > 0 {
				c.change(l[c.below(len(l))])
			}
		}
		before := clone(tree)
		want := model(tree)
		seen[want]++
		wants(t, want, check, model, tree)
		sames(t, modelSame(old, tree), same, old, tree)
		if !modelSame(tree, before) {
			t.Fatal("a tree was changed")
		}
	}
	if seen[api.OK] < 100 || seen[api.ErrArg] < 100 {
		t.Error(seen)
	}
}

func TestChangedTrees(t *testing.T) {
	c := chance(3)
	changed(t, &c, c.x, ast.CheckX, modelCheckX, ast.SameX)
	changed(t, &c, c.s, ast.CheckS, modelCheckS, ast.SameS)
	changed(t, &c, c.file, ast.Check, modelCheck, ast.Same)
}

// TestPartsOfWhatMayBe: what may be is made of what may be.
func TestPartsOfWhatMayBe(t *testing.T) {
	c := chance(5)
	for range 400 {
		f := c.file(5)
		is(t, api.OK, ast.Check, f)
		modelNodes(reflect.ValueOf(f), 0, func(node any, _ int) {
			switch n := node.(type) {
			case api.X:
				is(t, api.OK, ast.CheckX, n)
			case api.S:
				if n.Op != api.ArmS {
					is(t, api.OK, ast.CheckS, n)
				}
			case api.Item:
				is(t, api.OK, ast.Check, items(n))
			case api.Module:
				is(t, api.OK, ast.Check, api.File{Modules: []api.Module{n}})
			case api.Bind:
				is(t, api.OK, ast.Check, api.File{Modules: []api.Module{{Name: "m", Params: []api.Bind{n}}}})
			case api.Port:
				is(t, api.OK, ast.Check, api.File{Modules: []api.Module{{Name: "m", Ports: []api.Port{n}}}})
			}
		})
	}
}

func TestTreesAreLeftAlone(t *testing.T) {
	f := full()
	before := clone(f)
	x, s := f.Modules[0].Items[0].X[0], f.Modules[0].Items[0].S[0]
	ast.Check(f)
	ast.CheckX(x)
	ast.CheckS(s)
	ast.Same(f, f)
	ast.SameX(x, x)
	ast.SameS(s, s)
	ast.Size(f)
	ast.Deep(f)
	ast.Free(x)
	if !reflect.DeepEqual(f, before) || !slices.Equal(ast.Free(x), []string{"a", "b"}) {
		t.Error("the tree was changed")
	}
}
