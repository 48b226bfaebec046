package names_test

import (
	"fmt"
	"slices"
	"strings"
	"testing"

	"filigree/api"
	"filigree/ast"
	"filigree/names"
)

func wire(name string) api.Item {
	return api.Item{Op: api.WireI, Name: name, X: []api.X{number(1)}}
}

func inst(name, of string) api.Item {
	return api.Item{Op: api.InstI, Name: name, Of: of}
}

func choice(so, not []api.Item) api.Item {
	return api.Item{Op: api.IfI, X: []api.X{number(1)}, L: so, Else: not}
}

func loop(label, of string, l ...api.Item) api.Item {
	return api.Item{Op: api.ForI, Name: label, Of: of, X: []api.X{number(0), number(1)}, L: l}
}

func wires(first, n int) []api.Item {
	var l []api.Item
	for i := range n {
		l = append(l, wire(fmt.Sprint("w", first+i)))
	}
	return l
}

func one(items ...api.Item) api.File {
	return api.File{Modules: []api.Module{{Name: "m", Items: items}}}
}

func checksFile(t *testing.T, what string, f api.File, want api.Errno) {
	t.Helper()
	if e := names.Check(f); e != want {
		t.Errorf("Check of %s: error %d, want %d", what, e, want)
	}
}

// TestManyModules: as many as a file may have, each made of the one behind it, or ahead of it, or of all behind it.
func TestManyModules(t *testing.T) {
	name := func(i int) string { return fmt.Sprintf("m%02d", i) }
	var up, down, all api.File
	var rising []string
	for i := range api.MaxModules {
		u, d, a := api.Module{Name: name(i)}, api.Module{Name: name(i)}, api.Module{Name: name(i)}
		if i > 0 {
			u.Items = []api.Item{inst("u", name(i-1))}
		}
		if i+1 < api.MaxModules {
			d.Items = []api.Item{inst("u", name(i+1))}
		}
		for k := i + 1; k < api.MaxModules; k++ {
			a.Items = append(a.Items, inst(fmt.Sprint("u", k), name(k)))
		}
		up.Modules, down.Modules, all.Modules = append(up.Modules, u), append(down.Modules, d), append(all.Modules, a)
		rising = append(rising, name(i))
	}
	falling := slices.Clone(rising)
	slices.Reverse(falling)
	for i, f := range []api.File{up, down, all} {
		want := [][]string{rising, falling, falling}[i]
		if l, e := names.Order(f); e != api.OK || !slices.Equal(l, want) {
			t.Errorf("file %d: %v, error %d", i, l, e)
		}
		if l, e := names.Below(f, want[40]); e != api.OK || !slices.Equal(l, want[:41]) {
			t.Errorf("file %d, below %s: %v, error %d", i, want[40], l, e)
		}
	}
	down.Modules[63].Items = []api.Item{inst("u", name(0))}
	checksFile(t, "a ring of all modules", down, api.ErrRing)
	up.Modules = append(up.Modules, api.Module{Name: "m"})
	checksFile(t, "too many modules", up, api.ErrBound)
}

// TestManyNames: as many as a file can tell, in one scope, and in scopes and choices that stand as deep as they may.
func TestManyNames(t *testing.T) {
	const many = api.MaxNodes/2 - 200
	l := wires(0, many)
	checksFile(t, "many wires", one(l...), api.OK)
	checksFile(t, "many wires, the first one again", one(append(l, wire("w0"))...), api.ErrTwice)
	checksFile(t, "too many wires", one(append(l, wires(many, 200)...)...), api.ErrBound)
	const deep = api.MaxDeep - 3
	for _, else1 := range []bool{false, true} {
		in := slices.Clone(l[1:])
		for range deep {
			i := choice(in, wires(0, 1))
			if else1 {
				i.L, i.Else = i.Else, i.L
			}
			in = []api.Item{i}
		}
		checksFile(t, "many wires in choices", one(in...), api.OK)
		checksFile(t, "one that another side tells, behind", one(append(in, wire("w0"))...), api.ErrTwice)
		checksFile(t, "one that is told deep within, behind", one(append(in, wire("w9"))...), api.ErrTwice)
		checksFile(t, "one that is told deep within, ahead", one(append([]api.Item{wire("w9")}, in...)...), api.ErrTwice)
		checksFile(t, "too deep", one(choice(in, nil)), api.ErrBound)
	}
	in := slices.Clone(l)
	for i := range deep {
		in = []api.Item{loop(fmt.Sprint("l", i), fmt.Sprint("i", i), in...)}
	}
	checksFile(t, "many wires in loops", one(in...), api.OK)
	for _, name := range []string{"l0", "i0", "w0", "i30"} {
		checksFile(t, name+" told around, too", one(append(in, wire(name))...), api.ErrTwice)
	}
}

// TestManyLoops: one beside the other they may tell the same.
func TestManyLoops(t *testing.T) {
	var l []api.Item
	var s []api.S
	for i := range 8000 {
		l = append(l, loop(fmt.Sprint("l", i), "i", wire("w")))
		s = append(s, api.S{Op: api.ForS, Name: "i", X: []api.X{number(0), number(1)}})
	}
	s = append(s, api.S{Op: api.ForS, Name: "j", X: []api.X{number(0), number(1)}, L: s[:4000]})
	comb := api.Item{Op: api.CombI, S: s[:8000]}
	checksFile(t, "many loops", one(l...), api.OK)
	checksFile(t, "many loops, what stands in them around, too", one(append(l, wire("w"))...), api.ErrTwice)
	checksFile(t, "many loops of statements", one(comb), api.OK)
	comb.S = s
	checksFile(t, "loops of statements in one", one(comb), api.OK)
	s[8000].Name = "i"
	checksFile(t, "loops of statements in one that tells the same", one(comb), api.ErrTwice)
}

// TestLongNames: names differ in any byte.
func TestLongNames(t *testing.T) {
	long := strings.Repeat("a", api.MaxName-1)
	f := one(wire(long+"a"), wire(long+"b"), wire(long), wire("_"+long))
	f.Modules = append(f.Modules, api.Module{Name: long + "a"}, api.Module{Name: long + "b"})
	checksFile(t, "long names", f, api.OK)
	f.Modules[0].Items = append(f.Modules[0].Items, wire("_"+long))
	checksFile(t, "a long name twice", f, api.ErrTwice)
	f.Modules[0].Items[4].Name += "a"
	checksFile(t, "a name that is too long", f, api.ErrArg)
}

// TestFarWithin: what asks for no fit file goes as deep as any tree.
func TestFarWithin(t *testing.T) {
	const deep = 50000
	m := api.Module{Name: "m"}
	var want []string
	for i := range deep {
		use := inst("u", fmt.Sprint("m", deep-1-i))
		if i%2 == 0 {
			use.L = m.Items
		} else {
			use.Else = m.Items
		}
		m.Items = []api.Item{use}
		want = append(want, fmt.Sprint("m", i))
	}
	uses(t, m, want...)
	f := api.File{Modules: []api.Module{m}}
	if found, ok := names.Find(f, "m"); !ok || ast.Size(api.File{Modules: []api.Module{found}}) != deep+1 {
		t.Errorf("Find: %v", ok)
	}
	checksFile(t, "far within", f, api.ErrBound)
}

// TestEndless: items that stand in themselves are too many.
func TestEndless(t *testing.T) {
	l := []api.Item{loop("l", "i")}
	l[0].L = l
	checksFile(t, "a loop in itself", one(l...), api.ErrBound)
}

// wholeFile is a module of all kinds of items and statements.
const wholeFile = `module m#(P=1+2,Q=P)(in a:P+1,out b:1){
	const C=3; wire w:C; reg r:1=0; assign b=w[0];
	comb{case(a){1,2:{w=1;}else:{for(i=0..1){w[i]=zext(1,a);}}}}
	on tick{if(a){r<={2{a}};}else if(b){r<={a,b};}else{}}
	inst u:n#(P=1)(x=a,y=b);
	if(P){wire v:1;}else{for l(k=0..1){wire x:1;check c:x?a:b;}}
}
module n(){}`

// TestArgumentsStay: what is handed in is not changed.
func TestArgumentsStay(t *testing.T) {
	f, same := file(t, wholeFile), file(t, wholeFile)
	for _, items := range []string{``, `inst u:m();`, `wire w:1; wire w:1;`, `inst u:k();`} {
		f.Modules[1].Items = file(t, `module n(){`+items+`}`).Modules[0].Items
		same.Modules[1].Items = file(t, `module n(){`+items+`}`).Modules[0].Items
		names.Check(f)
		names.Find(f, "m")
		names.Uses(f.Modules[0])
		names.Order(f)
		names.Below(f, "m")
		if !ast.Same(f, same) {
			t.Fatalf("%s was changed", brief(same))
		}
	}
}

// overwrite writes into all lists of a module.
func overwrite(m *api.Module) {
	for i := range m.Params {
		overwriteX(&m.Params[i].X)
		m.Params[i].Name += "!"
	}
	for i := range m.Ports {
		overwriteX(&m.Ports[i].W)
		m.Ports[i].Name += "!"
	}
	overwriteItems(m.Items)
}

func overwriteItems(l []api.Item) {
	for i := range l {
		l[i].Name += "!"
		overwriteS(l[i].S)
		overwriteItems(l[i].L)
		overwriteItems(l[i].Else)
		for k := range l[i].X {
			overwriteX(&l[i].X[k])
		}
		for _, binds := range [][]api.Bind{l[i].Params, l[i].Binds} {
			for k := range binds {
				overwriteX(&binds[k].X)
				binds[k].Name += "!"
			}
		}
	}
}

func overwriteS(l []api.S) {
	for i := range l {
		l[i].Name += "!"
		overwriteS(l[i].L)
		for k := range l[i].X {
			overwriteX(&l[i].X[k])
		}
	}
}

func overwriteX(x *api.X) {
	x.Name += "!"
	for i := range x.L {
		overwriteX(&x.L[i])
	}
}

// TestAnswersAreNew: an answer shares no list with what was handed in, nor with another answer, nor with itself.
func TestAnswersAreNew(t *testing.T) {
	f, same := file(t, wholeFile), file(t, wholeFile)
	m, _ := names.Find(f, "m")
	m2, _ := names.Find(f, "m")
	overwrite(&m)
	if !ast.Same(f, same) || !sameModule(m2, same.Modules[0]) {
		t.Error("what was found shares a list")
	}
	order, _ := names.Order(f)
	below, _ := names.Below(f, "m")
	uses1 := names.Uses(f.Modules[0])
	clear(order)
	clear(below)
	clear(uses1)
	uses(t, f.Modules[0], "n")
	orders(t, wholeFile, "n m", "m: n m")
	if !ast.Same(f, same) {
		t.Error("an answer shares a list with the argument")
	}
	l := []api.Item{wire("w")}
	f = one(loop("l", "i", l...), loop("k", "i", l...), choice(l, l))
	m, _ = names.Find(f, "m")
	overwrite(&m)
	for _, i := range []api.Item{m.Items[0].L[0], m.Items[1].L[0], m.Items[2].L[0], m.Items[2].Else[0], l[0]} {
		if len(strings.TrimRight(i.Name, "!")) != 1 || strings.Count(i.Name, "!") > 1 {
			t.Errorf("two lists of an answer share a part: %s", i.Name)
		}
	}
	if l[0].Name != "w" {
		t.Error("what was found shares a list that stands in several places")
	}
}
