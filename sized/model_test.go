package sized_test

import (
	"fmt"
	"math/big"
	"reflect"
	"regexp"
	"slices"
	"strings"

	"filigree/api"
)

// The model says the chapter's sentences again: shapes are lines, which are held against regular expressions, nodes are found by reflection, own widths are numbers that may not be there, and sizing tells each node anew, or the first error.

// modelNodes is how many expressions and statements there are, and how many of them stand one within the other.
func modelNodes(v reflect.Value, depth int) (nodes, deepest int) {
	switch v.Kind() {
	case reflect.Slice:
		for i := range v.Len() {
			n, d := modelNodes(v.Index(i), depth)
			nodes, deepest = nodes+n, max(deepest, d)
		}
	case reflect.Struct:
		if v.Type() == reflect.TypeFor[api.E]() || v.Type() == reflect.TypeFor[api.T]() {
			depth++
			nodes, deepest = 1, depth
		}
		for i := range v.NumField() {
			n, d := modelNodes(v.Field(i), depth)
			nodes, deepest = nodes+n, max(deepest, d)
		}
	}
	return nodes, deepest
}

func modelTooGreat(n any) bool {
	nodes, deep := modelNodes(reflect.ValueOf(n), 0)
	return nodes > 65536 || deep > 64
}

func modelSignals(l []api.Signal) bool {
	for k, s := range l {
		named := slices.ContainsFunc(l[:k], func(other api.Signal) bool { return other.Name == s.Name })
		if named || s.Name == "" || s.W < 1 || s.W > 64 || s.Kind < 1 || s.Kind > 4 || s.Init != 0 && s.Kind != api.RegK {
			return false
		}
	}
	return true
}

// modelBits is s, if a signal has the bits lo to hi, 0, if it is the first one, and these are 0, or else ?; where both are so, it is b.
func modelBits(d api.Flat, signal, hi, lo int) string {
	none := signal == 0 && hi == 0 && lo == 0
	there := signal >= 0 && signal < len(d.Signals) && lo >= 0 && lo <= hi && hi < d.Signals[max(0, signal)].W
	switch {
	case none && there:
		return "b"
	case none:
		return "0"
	case there && hi == 0 && lo == 0:
		return "f"
	case there:
		return "s"
	}
	return "?"
}

func modelFits(w int, v uint64) bool { return w >= 0 && new(big.Int).SetUint64(v).BitLen() <= w }

// A line of an expression: its kind, W and V, its bits, its operation, and an e for each part.
var modelE = regexp.MustCompile(`^(1 (w[0v]|n[0v]) [0b] 0 |2 .0 [bsf] 0 |3 .0 [bf] 0 e|4 .0 [0b] u e|5 .0 [0b] b ee|6 .0 [0b] 0 eee|7 .0 [0b] 0 e+|8 w0 [0b] x e)$`)

func modelLine(d api.Flat, e api.E) string {
	width, v := "?", "0"
	if 1 <= e.W && e.W <= 64 {
		width = "w"
	} else if e.W == 0 {
		width = "n"
	}
	if e.V != 0 {
		v = "v"
		if e.Op == api.NumE && e.W != 0 && !modelFits(e.W, e.V) {
			v = "?"
		}
	}
	operation := "?"
	for sign, ns := range map[string][2]int{"0": {0, 0}, "u": {1, 6}, "b": {11, 26}, "x": {31, 33}} {
		if ns[0] <= e.N && e.N <= ns[1] {
			operation = sign
		}
	}
	return fmt.Sprintf("%d %s%s %s %s %s", e.Op, width, v, modelBits(d, e.Sig, e.Hi, e.Lo), operation, strings.Repeat("e", len(e.L)))
}

func modelShape(d api.Flat, e api.E) bool {
	return modelE.MatchString(modelLine(d, e)) && !slices.ContainsFunc(e.L, func(part api.E) bool { return !modelShape(d, part) })
}

// A line of a statement: its kind, its bits, its expressions (n is a number), and its statements (r is an arm with labels, l one without).
var modelT = regexp.MustCompile(`^(1 [bsf] [en] |2 [0b] [en] bb|3 [0b] [en] r*l|4 [0b] n* [aicb]*|5 [0b]  [aicb]*)$`)

func modelShapeT(d api.Flat, t api.T) bool {
	line := fmt.Sprintf("%d %s ", t.Op, modelBits(d, t.Sig, t.Hi, t.Lo))
	for _, e := range t.E {
		line += map[bool]string{true: "n", false: "e"}[e.Op == api.NumE]
		if !modelShape(d, e) {
			return false
		}
	}
	line += " "
	for _, s := range t.L {
		switch {
		case s.Op == api.ArmT && len(s.E) == 0:
			line += "l"
		case s.Op >= 1 && s.Op <= 5:
			line += "aicrb"[s.Op-1 : s.Op]
		default:
			line += "?"
		}
		if !modelShapeT(d, s) {
			return false
		}
	}
	return modelT.MatchString(line)
}

// modelOwn is an own width, if there is one.
func modelOwn(e api.E) (int, bool) {
	switch {
	case e.Op == api.NumE:
		return e.W, e.W != 0
	case e.Op == api.SigE:
		return e.Hi - e.Lo + 1, true
	case e.Op == api.UnE && e.N <= api.NegO, e.Op == api.BinE && (e.N == api.ShlO || e.N == api.ShrO):
		return modelOwn(e.L[0])
	case e.Op == api.BinE && e.N <= api.MulO:
		return modelFirst(e.L)
	case e.Op == api.CondE:
		return modelFirst(e.L[1:])
	case e.Op == api.CatE:
		sum := 0
		for _, part := range e.L {
			w, ok := modelOwn(part)
			if !ok {
				return 0, false
			}
			sum += w
		}
		return sum, true
	case e.Op == api.ExtE:
		return e.W, true
	}
	return 1, true
}

// modelFirst is the first own width of some.
func modelFirst(l []api.E) (int, bool) {
	for _, e := range l {
		if w, ok := modelOwn(e); ok {
			return w, true
		}
	}
	return 0, false
}

// modelTo is what a part is sized to: a width, 0, or a bit.
type modelTo struct {
	w   int
	bit bool
}

// modelSize is an expression with its widths, or the first error.
func modelSize(e api.E, to modelTo) (api.E, api.Errno) {
	own, has := modelOwn(e)
	w := to.w
	if to.bit {
		if has && own != 1 {
			return api.E{}, api.ErrBit
		}
		w = 1
	}
	if w == 0 {
		w = 32
		if has {
			w = own
		}
	}
	if fault := modelOwnFault(e, w); fault != api.OK {
		return api.E{}, fault
	}
	told := e
	told.W, told.L = w, nil
	for k, part := range modelParts(e, w) {
		one, fault := modelSize(e.L[k], part)
		if fault != api.OK {
			return api.E{}, fault
		}
		told.L = append(told.L, one)
	}
	if e.Op == api.ExtE && (e.N != api.CutO && told.L[0].W > w || e.N == api.CutO && told.L[0].W < w) {
		return api.E{}, api.ErrSize
	}
	return told, api.OK
}

// modelOwnFault is what is wrong with a node by itself.
func modelOwnFault(e api.E, w int) api.Errno {
	own, has := modelOwn(e)
	size := false
	switch e.Op {
	case api.NumE:
		if e.W == 0 && !modelFits(w, e.V) {
			return api.ErrFit
		}
		size = e.W != 0 && e.W != w
	case api.SigE, api.IndexE:
		size = own != w
	case api.UnE:
		size = e.N >= api.AllO && w != 1
	case api.BinE:
		size = e.N >= api.EqO && w != 1
	case api.CatE:
		size = !has || own != w || own > 64
	case api.ExtE:
		size = e.W != w
	}
	if size {
		return api.ErrSize
	}
	return api.OK
}

// modelParts is what the parts of a node that is w wide are sized to.
func modelParts(e api.E, w int) []modelTo {
	same, any, bit := modelTo{w: w}, modelTo{}, modelTo{bit: true}
	switch e.Op {
	case api.NumE, api.SigE:
		return nil
	case api.UnE:
		return []modelTo{[]modelTo{{}, same, same, any, any, any, bit}[e.N]}
	case api.BinE:
		common := modelTo{w: 32}
		if first, ok := modelFirst(e.L); ok {
			common.w = first
		}
		switch {
		case e.N <= api.MulO:
			return []modelTo{same, same}
		case e.N <= api.ShrO:
			return []modelTo{same, any}
		case e.N <= api.GeO:
			return []modelTo{common, common}
		}
		return []modelTo{bit, bit}
	case api.CondE:
		return []modelTo{bit, same, same}
	}
	return make([]modelTo, len(e.L))
}

func modelExpr(d api.Flat, e api.E, want int) (api.E, api.Errno) {
	switch {
	case !modelSignals(d.Signals) || want < 0 || want > 64 || !modelShape(d, e):
		return api.E{}, api.ErrArg
	case modelTooGreat(e):
		return api.E{}, api.ErrBound
	}
	return modelSize(e, modelTo{w: want})
}

func modelDesign(d api.Flat) (api.Flat, api.Errno) {
	bits := new(big.Int)
	for _, s := range d.Signals {
		bits.Add(bits, big.NewInt(int64(max(s.W, 0))))
	}
	if len(d.Signals) > 512 || len(d.Procs) > 1024 || bits.Cmp(big.NewInt(4096)) > 0 || modelTooGreat(d) {
		return api.Flat{}, api.ErrBound
	}
	if !modelSignals(d.Signals) {
		return api.Flat{}, api.ErrArg
	}
	for _, p := range d.Procs {
		if !modelShapeT(d, api.T{Op: api.BlockT, L: p.L}) {
			return api.Flat{}, api.ErrArg
		}
	}
	for _, c := range d.Checks {
		if !modelShape(d, c.E) {
			return api.Flat{}, api.ErrArg
		}
	}
	for _, s := range d.Signals {
		if !modelFits(s.W, s.Init) {
			return api.Flat{}, api.ErrFit
		}
	}
	told := api.Flat{Signals: d.Signals}
	for _, p := range d.Procs {
		block, fault := modelStatement(d, p.Clocked, api.T{Op: api.BlockT, L: p.L}, 0)
		if fault != api.OK {
			return api.Flat{}, fault
		}
		told.Procs = append(told.Procs, api.Proc{Clocked: p.Clocked, L: block.L})
	}
	for _, c := range d.Checks {
		e, fault := modelSize(c.E, modelTo{bit: true})
		if fault != api.OK {
			return api.Flat{}, fault
		}
		told.Checks = append(told.Checks, api.Check{Name: c.Name, E: e})
	}
	return told, api.OK
}

// modelStatement is a statement with its widths; label is how wide an arm's labels are.
func modelStatement(d api.Flat, clocked bool, t api.T, label int) (api.T, api.Errno) {
	to := modelTo{w: label}
	switch t.Op {
	case api.AssignT:
		kinds := map[bool][]int{false: {api.OutK, api.WireK}, true: {api.RegK}}
		if !slices.Contains(kinds[clocked], d.Signals[t.Sig].Kind) {
			return api.T{}, api.ErrRole
		}
		to = modelTo{w: t.Hi - t.Lo + 1}
	case api.IfT:
		to = modelTo{bit: true}
	case api.CaseT:
		to = modelTo{}
	}
	told := t
	told.E, told.L = nil, nil
	for _, e := range t.E {
		one, fault := modelSize(e, to)
		if fault != api.OK {
			return api.T{}, fault
		}
		told.E = append(told.E, one)
		label = one.W
	}
	for _, s := range t.L {
		one, fault := modelStatement(d, clocked, s, label)
		if fault != api.OK {
			return api.T{}, fault
		}
		told.L = append(told.L, one)
	}
	return told, api.OK
}

func modelCheckE(d api.Flat, e api.E) api.Errno {
	told, fault := modelExpr(d, e, e.W)
	if fault == api.OK && (e.W == 0 || !modelSame(told, e)) {
		fault = api.ErrSize
	}
	return fault
}

func modelCheck(d api.Flat) api.Errno {
	told, fault := modelDesign(d)
	if fault == api.OK && !modelSame(told, d) {
		fault = api.ErrSize
	}
	return fault
}
