package ast_test

import (
	"fmt"
	"math"
	"math/big"
	"reflect"
	"regexp"
	"slices"
	"strings"

	"filigree/api"
)

// The model goes over trees by reflection, and holds the shape of each node, written as a line, against a regular expression, so that it shares no walk and no table with the package.

// modelMeasure is how many nodes a tree has, and how many of them stand one within the other.
func modelMeasure(tree any) (size, deep int) {
	modelNodes(reflect.ValueOf(tree), 0, func(_ any, depth int) {
		size++
		deep = max(deep, depth)
	})
	return size, deep
}

// modelNodes shows all nodes of a tree; a file, a number and a text are none.
func modelNodes(v reflect.Value, depth int, show func(node any, depth int)) {
	switch v.Kind() {
	case reflect.Slice:
		for i := range v.Len() {
			modelNodes(v.Index(i), depth, show)
		}
	case reflect.Struct:
		if v.Type() != reflect.TypeFor[api.File]() {
			depth++
			show(v.Interface(), depth)
		}
		for i := range v.NumField() {
			modelNodes(v.Field(i), depth, show)
		}
	}
}

// modelMayBe tells whether all nodes of a tree may be, wherever they stand.
func modelMayBe(tree any) bool {
	may := true
	modelNodes(reflect.ValueOf(tree), 0, func(node any, _ int) { may = may && modelForm.MatchString(modelLine(node)) })
	return may
}

// A line is the node's type, its kind, and its fields: of a name n, of no text -, of one that is no name ?; of a list a letter an element.
var modelForm = regexp.MustCompile(`^(?:` + strings.Join([]string{
	`X 1 - 0 V `, `X 2 n 0 0 `, `X 3 n 0 0 xx`, `X 4 n 0 0 x`, `X 5 - un 0 x`, `X 6 - bin 0 xx`, `X 7 - 0 0 xxx`, `X 8 - 0 0 x+`, `X 9 - 0 0 xx`, `X 10 - ext 0 xx`,
	`S 1 - t[tx] `, `S 2 - [tx] b[bi]`, `S 3 - [tx] r*e`, `S 4 - [tx]* [aicbf]*`, `S 5 -  [aicbf]*`, `S 6 n [tx][tx] [aicbf]*`,
	`I 1 n - [tx];;;;;`, `I 2 n - [tx];;;;;`, `I 3 n - [tx][tx];;;;;`, `I 4 - - t[tx];;;;;`, `I 5 - - ;[aicbf]*;;;;`, `I 6 - - ;[aicbf]*;;;;`,
	`I 7 n n ;;;;p*;p*`, `I 8 - - [tx];;I*;I*;;`, `I 9 n n [tx][tx];;I*;;;`, `I 10 n - [tx];;;;;`,
	`B n`, `P n`, `M n`,
}, "|") + `)$`)

func modelLine(node any) string {
	switch n := node.(type) {
	case api.X:
		l := strings.Repeat("x", len(n.L))
		return fmt.Sprintf("X %d %s %s %s %s", n.Op, modelName(n.Name), modelOperation(n.N), modelNumber(n), l)
	case api.S:
		return fmt.Sprintf("S %d %s %s %s", n.Op, modelName(n.Name), modelTargets(n.X), modelKinds(n.L))
	case api.Item:
		lists := []string{modelTargets(n.X), modelKinds(n.S), strings.Repeat("I", len(n.L)), strings.Repeat("I", len(n.Else)), strings.Repeat("p", len(n.Params)), strings.Repeat("p", len(n.Binds))}
		return fmt.Sprintf("I %d %s %s %s", n.Op, modelName(n.Name), modelName(n.Of), strings.Join(lists, ";"))
	case api.Bind:
		return "B " + modelName(n.Name)
	case api.Port:
		return "P " + modelName(n.Name)
	case api.Module:
		return "M " + modelName(n.Name)
	}
	panic("no node")
}

var modelNameForm = regexp.MustCompile(`^[a-zA-Z_][a-zA-Z_0-9]{0,63}$`)

const modelWords = "module in out wire reg const assign comb on tick inst if else for check case zext sext trunc"

func modelName(s string) string {
	switch {
	case s == "":
		return "-"
	case modelNameForm.MatchString(s) && !strings.HasSuffix(s, "\n") && !slices.Contains(strings.Fields(modelWords), s):
		return "n"
	}
	return "?"
}

func modelOperation(n int) string {
	switch {
	case n == 0:
		return "0"
	case 1 <= n && n <= 6:
		return "un"
	case 11 <= n && n <= 26:
		return "bin"
	case 31 <= n && n <= 33:
		return "ext"
	}
	return "?"
}

func modelNumber(x api.X) string {
	switch {
	case x.Op != api.NumX && x.W == 0 && x.V == 0:
		return "0"
	case x.W < 0 || x.W > 64 || x.W > 0 && new(big.Int).SetUint64(x.V).BitLen() > x.W:
		return "?"
	}
	return "V"
}

func modelTargets(l []api.X) string {
	s := ""
	for _, x := range l {
		s += map[bool]string{true: "t", false: "x"}[2 <= x.Op && x.Op <= 4]
	}
	return s
}

// modelKinds has a letter for each kind of statement; an arm without labels is an e.
func modelKinds(l []api.S) string {
	s := ""
	for _, one := range l {
		switch {
		case one.Op == api.ArmS && len(one.X) == 0:
			s += "e"
		case 1 <= one.Op && one.Op <= 6:
			s += "aicrbf"[one.Op-1 : one.Op]
		default:
			s += "?"
		}
	}
	return s
}

func modelCheck(f api.File) api.Errno {
	return modelErrno(f, len(f.Modules) <= 64 && modelMayBe(f))
}

func modelCheckX(x api.X) api.Errno { return modelErrno(x, modelMayBe(x)) }

func modelCheckS(s api.S) api.Errno { return modelErrno(s, modelMayBe(s) && s.Op != api.ArmS) }

func modelErrno(tree any, may bool) api.Errno {
	size, deep := modelMeasure(tree)
	switch {
	case size > 65536 || deep > 64:
		return api.ErrBound
	case !may:
		return api.ErrArg
	}
	return api.OK
}

func modelFree(x api.X) []string {
	var names []string
	modelNodes(reflect.ValueOf(x), 0, func(node any, _ int) {
		if n := node.(api.X); slices.Contains([]int{2, 3, 4}, n.Op) && !slices.Contains(names, n.Name) {
			names = append(names, n.Name)
		}
	})
	return names
}

// clone is a tree of its own, in which a list without elements is nil.
func clone[N any](tree N) N {
	return cloneValue(reflect.ValueOf(tree)).Interface().(N)
}

func cloneValue(v reflect.Value) reflect.Value {
	c := reflect.New(v.Type()).Elem()
	switch v.Kind() {
	case reflect.Slice:
		for i := range v.Len() {
			c = reflect.Append(c, cloneValue(v.Index(i)))
		}
	case reflect.Struct:
		for i := range v.NumField() {
			c.Field(i).Set(cloneValue(v.Field(i)))
		}
	default:
		c.Set(v)
	}
	return c
}

func modelSame[N any](a, b N) bool { return reflect.DeepEqual(clone(a), clone(b)) }

// places are all fields of a tree's nodes, to be set.
func places(v reflect.Value) []reflect.Value {
	var l []reflect.Value
	switch v.Kind() {
	case reflect.Slice:
		for i := range v.Len() {
			l = append(l, places(v.Index(i))...)
		}
	case reflect.Struct:
		for i := range v.NumField() {
			if v.Field(i).Kind() != reflect.Struct {
				l = append(l, v.Field(i))
			}
			l = append(l, places(v.Field(i))...)
		}
	}
	return l
}

// change puts something else into a field of a tree; it may be what stood there.
func (c *chance) change(field reflect.Value) {
	switch field.Kind() {
	case reflect.Int:
		numbers := []int{0, 1, 2, 3, 4, 5, 6, 7, 8, 9, 10, 11, 12, 25, 26, 27, 30, 31, 33, 34, 64, 65, -1, 100, math.MaxInt, math.MinInt}
		field.SetInt(int64(numbers[c.below(len(numbers))]))
	case reflect.Uint64:
		numbers := []uint64{0, 1, 2, 255, 256, 1 << 63, math.MaxUint64}
		field.SetUint(numbers[c.below(len(numbers))])
	case reflect.String:
		texts := []string{"", "a", "b", "_", "in", "zext", "9", "9a", "a b", "a\n", "é", "+", strings.Repeat("n", 64), strings.Repeat("n", 65)}
		field.SetString(texts[c.below(len(texts))])
	case reflect.Bool:
		field.SetBool(!field.Bool())
	case reflect.Slice:
		c.changeList(field)
	}
}

func (c *chance) changeList(field reflect.Value) {
	n := field.Len()
	switch c.below(4) {
	case 0:
		field.Set(reflect.Append(field, reflect.Zero(field.Type().Elem())))
	case 1:
		field.Set(reflect.MakeSlice(field.Type(), 0, 1))
	case 2:
		if n > 0 {
			field.Set(reflect.Append(field, cloneValue(field.Index(c.below(n)))))
		}
	case 3:
		if n > 0 {
			field.Set(field.Slice(c.below(2), n-c.below(2)*(n/2)))
		}
	}
}
