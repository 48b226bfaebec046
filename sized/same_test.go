package sized_test

import (
	"reflect"
	"testing"

	"filigree/api"
	"filigree/sized"
)

// clone is a value that shares no list, and in which a list without elements is nil.
func clone[N any](n N) N { return cloneValue(reflect.ValueOf(n)).Interface().(N) }

func cloneValue(v reflect.Value) reflect.Value {
	c := reflect.New(v.Type()).Elem()
	switch v.Kind() {
	case reflect.Slice:
		for i := range v.Len() {
			c = reflect.Append(c, cloneValue(v.Index(i)))
		}
	case reflect.Struct:
		for i := range v.NumField() {
			c.Field(i).Set(cloneValue(v.Field(i)))
		}
	default:
		c.Set(v)
	}
	return c
}

func modelSame[N any](a, b N) bool { return reflect.DeepEqual(clone(a), clone(b)) }

// places are all fields that are no struct, wherever they stand, to be set.
func places(v reflect.Value) []reflect.Value {
	var l []reflect.Value
	switch v.Kind() {
	case reflect.Slice:
		for i := range v.Len() {
			l = append(l, places(v.Index(i))...)
		}
	case reflect.Struct:
		for i := range v.NumField() {
			if v.Field(i).Kind() != reflect.Struct {
				l = append(l, v.Field(i))
			}
			l = append(l, places(v.Field(i))...)
		}
	}
	return l
}

func placesOf[N any](n *N) []reflect.Value { return places(reflect.ValueOf(n).Elem()) }

// other sets a field to something that it was not.
func other(field reflect.Value) {
	switch field.Kind() {
	case reflect.Int:
		field.SetInt(field.Int() + 1)
	case reflect.Uint64:
		field.SetUint(field.Uint() ^ 1<<63)
	case reflect.String:
		field.SetString(field.String() + "x")
	case reflect.Bool:
		field.SetBool(!field.Bool())
	case reflect.Slice:
		if n := field.Len(); n > 0 {
			field.Set(field.Slice(0, n-1))
		} else {
			field.Set(reflect.MakeSlice(field.Type(), 1, 1))
		}
	}
}

// sames holds SameE or Same against what is wanted, from both sides.
func sames[N any](t *testing.T, want bool, same func(a, b N) bool, a, b N) {
	t.Helper()
	if same(a, b) != want || same(b, a) != want {
		t.Errorf("%+v and %+v: the same is %t, want %t", a, b, !want, want)
	}
}

// full is a design in which each list of each kind has two elements, and no field is zero; it may not be.
func full() api.Flat {
	e := []api.E{{Op: 5, W: 1, V: 2, Sig: 3, Hi: 4, Lo: 5, N: 6, L: []api.E{bitsOf(1, 2, 3), number(4, 5)}}, number(6, 7)}
	s := []api.T{{Op: 1, Sig: 2, Hi: 3, Lo: 4, E: e, L: []api.T{{Op: 5}, {Op: 6}}}, {Op: 7}}
	return clone(api.Flat{
		Signals: []api.Signal{{Name: "s", W: 1, Kind: 2, Init: 3}, {Name: "t"}},
		Procs:   []api.Proc{{Clocked: true, L: s}, {L: s}},
		Checks:  []api.Check{{Name: "c", E: e[0]}, {Name: "d", E: e[1]}},
	})
}

func TestEachFieldCounts(t *testing.T) {
	d := full()
	count := len(placesOf(&d))
	if count < 150 {
		t.Fatal(count)
	}
	for k := range count {
		a, b := full(), full()
		sames(t, true, sized.Same, a, b)
		other(placesOf(&b)[k])
		sames(t, false, sized.Same, a, b)
	}
	e := full().Checks[0].E
	for k := range placesOf(&e) {
		b := clone(e)
		sames(t, true, sized.SameE, e, b)
		other(placesOf(&b)[k])
		sames(t, false, sized.SameE, e, b)
	}
}

func TestListsWithoutElements(t *testing.T) {
	sames(t, true, sized.SameE, api.E{}, api.E{L: []api.E{}})
	sames(t, true, sized.SameE, of(api.UnE, 1, api.E{}), of(api.UnE, 1, api.E{L: []api.E{}}))
	sames(t, true, sized.Same, api.Flat{}, api.Flat{Signals: []api.Signal{}, Procs: []api.Proc{}, Checks: []api.Check{}})
	sames(t, true, sized.Same, api.Flat{Procs: []api.Proc{{}}}, api.Flat{Procs: []api.Proc{{L: []api.T{}}}})
	sames(t, true, sized.Same, api.Flat{Procs: []api.Proc{{L: []api.T{{}}}}}, api.Flat{Procs: []api.Proc{{L: []api.T{{E: []api.E{}, L: []api.T{}}}}}})
	sames(t, false, sized.SameE, api.E{}, api.E{L: []api.E{{}}})
	sames(t, false, sized.SameE, api.E{L: []api.E{{}, {}}}, api.E{L: []api.E{{}}})
	sames(t, false, sized.Same, api.Flat{}, api.Flat{Signals: []api.Signal{{}}})
	sames(t, false, sized.Same, api.Flat{}, api.Flat{Procs: []api.Proc{{}}})
	sames(t, false, sized.Same, api.Flat{}, api.Flat{Checks: []api.Check{{}}})
	sames(t, false, sized.Same, api.Flat{Procs: []api.Proc{{}, {L: []api.T{{}}}}}, api.Flat{Procs: []api.Proc{{L: []api.T{{}}}, {}}})
	sames(t, false, sized.SameE, of(api.BinE, api.AddO, number(0, 1), number(0, 2)), of(api.BinE, api.AddO, number(0, 2), number(0, 1)))
}

// TestSameOfWhatIsGreat: no limit is asked.
func TestSameOfWhatIsGreat(t *testing.T) {
	one := number(1, 1)
	high, wide := turned(one, 1<<16-1), of(api.CatE, 0, repeated(one, 100000)...)
	sames(t, true, sized.SameE, high, turned(one, 1<<16-1))
	sames(t, false, sized.SameE, high, turned(number(1, 0), 1<<16-1))
	sames(t, false, sized.SameE, high, turned(one, 1<<16-2))
	sames(t, true, sized.SameE, wide, clone(wide))
	sames(t, true, sized.Same, checked(high, wide), checked(high, wide))
	sames(t, false, sized.Same, checked(high, wide), checked(wide, high))
	d := api.Flat{Signals: make([]api.Signal, 1000), Procs: make([]api.Proc, 2000)}
	sames(t, true, sized.Same, d, clone(d))
}
