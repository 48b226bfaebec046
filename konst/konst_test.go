package konst_test

import (
	"math"
	"slices"
	"testing"

	"filigree/api"
	"filigree/ast"
	"filigree/konst"
	"filigree/parse"
	"filigree/spell"
)

func number(w int, v uint64) api.X   { return api.X{Op: api.NumX, W: w, V: v} }
func name(s string) api.X            { return api.X{Op: api.NameX, Name: s} }
func of(op, n int, l ...api.X) api.X { return api.X{Op: op, N: n, L: l} }

// constants are some that may be, and some that may not; N, and Off, are told twice.
func constants() []api.Named {
	return []api.Named{{Name: "N", V: 9}, {Name: "Off", V: 2}, {Name: "Z", V: 0}, {Name: "Top", V: api.MaxConst}, {Name: "N", V: 3}, {Name: "Low", V: -1}, {Name: "High", V: 1 << 31}, {Name: "Least", V: math.MinInt}, {Name: "Most", V: math.MaxInt}, {Name: "Wraps", V: 1 << 32}, {Name: "Off", V: -5}}
}

// read is the tree of a text.
func read(t *testing.T, text string) api.X {
	t.Helper()
	x, place, e := parse.ParseX([]byte(text))
	if e != api.OK {
		t.Fatalf("%q: error %d at %d", text, e, place)
	}
	return x
}

// brief is an expression as a text, if it has one.
func brief(x api.X) any {
	if text, e := spell.PrintX(x); e == api.OK && len(text) < 200 {
		return string(text)
	}
	if len(x.L) > 3 {
		return "a great expression"
	}
	return x
}

// evals wants what an expression is, or an error.
func evals(t *testing.T, x api.X, env []api.Named, want int, wantE api.Errno) {
	t.Helper()
	if v, e := konst.Eval(x, env); v != want || e != wantE {
		t.Errorf("Eval %v: %d, error %d, want %d, error %d", brief(x), v, e, want, wantE)
	}
}

func TestLookup(t *testing.T) {
	env := append(constants(), api.Named{V: 7}, api.Named{Name: "no name", V: 8}, api.Named{Name: "in", V: 1})
	for name, want := range map[string]int{"N": 3, "Off": -5, "Z": 0, "Top": api.MaxConst, "Low": -1, "High": 1 << 31, "Least": math.MinInt, "Most": math.MaxInt, "Wraps": 1 << 32, "": 7, "no name": 8, "in": 1} {
		if v, ok := konst.Lookup(env, name); v != want || !ok {
			t.Errorf("Lookup %q: %d, %t, want %d", name, v, ok, want)
		}
	}
	for _, name := range []string{"M", "n", "NN", " N", "N ", "no", "In"} {
		if v, ok := konst.Lookup(env, name); v != 0 || ok {
			t.Errorf("Lookup %q: %d, %t, want none", name, v, ok)
		}
	}
	for _, env := range [][]api.Named{nil, {}, env[:1]} {
		if v, ok := konst.Lookup(env, ""); v != 0 || ok {
			t.Errorf("Lookup of %v: %d, %t", env, v, ok)
		}
	}
}

func TestEval(t *testing.T) {
	for text, want := range map[string]int{
		"N + 1": 4, "N << 2": 12, "N": 3, "Z": 0, "Top": api.MaxConst, "0": 0, "7": 7, "2147483647": api.MaxConst,
		"!0": 1, "!1": 0, "!2": 0, "!Top": 0, "!Z": 1, "!!5": 1, "!(N == 3)": 0,
		"N - 3": 0, "Top - Top": 0, "Top - 1": api.MaxConst - 1, "2147483646 + 1": api.MaxConst, "46340 * 46340": 2147395600, "0 * Top": 0, "Top * 1": api.MaxConst, "N * N - N": 6, "N - 1 - 2": 0,
		"N == 3": 1, "N == 4": 0, "N != 3": 0, "N != 4": 1, "2 < N": 1, "3 < N": 0, "4 < N": 0, "2 <= N": 1, "3 <= N": 1, "4 <= N": 0, "2 > N": 0, "3 > N": 0, "4 > N": 1, "2 >= N": 0, "3 >= N": 1, "4 >= N": 1, "Top > 0": 1,
		"0 && 0": 0, "0 && 2": 0, "2 && 0": 0, "2 && 1": 1, "4 && 3": 1, "0 || 0": 0, "0 || 2": 1, "4 || 0": 1, "4 || 3": 1,
		"1 << 0": 1, "1 << 30": 1 << 30, "3 << 29": 3 << 29, "0 << 31": 0, "0 << 64": 0, "0 << Top": 0, "Top << 0": api.MaxConst,
		"Top >> 0": api.MaxConst, "Top >> 1": 1<<30 - 1, "Top >> 30": 1, "Top >> 31": 0, "Top >> 64": 0, "Top >> Top": 0, "5 >> 1": 2, "7 >> 2": 1, "0 >> 0": 0, "1 >> 32": 0,
		"1 ? 2 : 3": 2, "0 ? 2 : 3": 3, "Top ? 2 : 3": 2, "1 ? 2 : M": 2, "0 ? M : 5": 5, "1 ? N : 8'd1": 3, "0 ? {N} : 5": 5, "0 ? N - 4 : 5": 5, "N > 2 ? N < 2 ? M : 7 : Low": 7, "!1 ? Low : !0 ? 6 : High": 6,
	} {
		evals(t, read(t, text), constants(), want, api.OK)
	}
}

func TestEvalErrors(t *testing.T) {
	for e, texts := range map[api.Errno][]string{
		api.ErrFree:  {"M", "n", "!M", "M + 1", "1 + M", "M ? 1 : 2", "1 ? M : 2", "0 ? 1 : M", "0 && M", "M && 0", "1 || M", "M || 1", "0 * M", "0 << M", "0 >> M", "M == M", "M + 8'd1", "M - (N - 4)", "M * Low", "M ? 8'd1 : High", "2 ? M : 3 ? 1 : 0", "0 - M + Top + 1", "!!!M"},
		api.ErrOver:  {"N - 4", "0 - 1", "Low", "High", "Least", "Most", "Wraps", "Off", "2147483648", "4294967296", "18446744073709551615", "Top + 1", "Top + Top", "Top * 2", "Top * Top", "46341 * 46341", "65536 * 65536", "1 << 31", "2 << 30", "Top << 1", "1 << 32", "1 << 63", "1 << 64", "4 << 62", "3 << 64", "1 << Top", "Top << Top", "Top + 1 - 1", "0 - 1 + 1", "(1 << 31) >> 31", "N - 4 == N - 4", "!(N - 4)", "N - 4 ? 1 : 2", "1 ? N - 4 : 2", "0 ? 1 : High", "High + M", "Off * 8'd1", "0 && Low", "1 || High", "0 << High", "0 << Low", "1 >> High", "Low == Low", "2147483648 < M"},
		api.ErrKonst: {"8'd3", "1'b0", "1'd1", "64'hffffffffffffffff", "32'd2147483648", "~1", "-1", "-0", "&1", "|1", "^1", "~M", "-M", "&M", "|High", "^(N - 4)", "N & N", "N | 1", "N ^ 1", "M & 1", "M | M", "High ^ Low", "1 & 8'd1", "a[0]", "N[0]", "N[M]", "N[1:0]", "M[High:Low]", "{N}", "{M}", "{N, N}", "{2{N}}", "{M{High}}", "zext(8, N)", "sext(M, N)", "trunc(1, N - 4)", "8'd3 + M", "8'd3 ? M : High", "{N} == M", "-1 + (N - 4)", "!8'd0", "0 && 8'd1", "1 || ~1", "1 + 8'd1", "1 ? 8'd1 : 2", "0 ? 1 : {N}", "N[0] ? M : M"},
	} {
		for _, text := range texts {
			evals(t, read(t, text), constants(), 0, e)
		}
	}
}

// TestEvalAtTheEdges asks all operations of two of all pairs of numbers where something turns.
func TestEvalAtTheEdges(t *testing.T) {
	edges := []int{0, 1, 2, 3, 4, 5, 29, 30, 31, 32, 33, 62, 63, 64, 65, 255, 256, 257, 46340, 46341, 65535, 65536, 1<<30 - 1, 1 << 30, 1<<30 + 1, 1<<31 - 2, 1<<31 - 1}
	for op := api.AndO; op <= api.OneO; op++ {
		for _, a := range edges {
			for _, b := range edges {
				x := of(api.BinX, op, number(0, uint64(a)), name("b"))
				env := []api.Named{{Name: "b", V: b}}
				want, e := modelEval(x, env)
				evals(t, x, env, want, e)
			}
		}
	}
}

// wrong is expressions that may not be, each for a reason of its own.
func wrong() []api.X {
	one := number(0, 1)
	deep, great := one, of(api.CatX, 0, slices.Repeat([]api.X{one}, api.MaxNodes)...)
	for range api.MaxDeep {
		deep = of(api.UnX, api.NoO, deep)
	}
	return []api.X{
		{}, {Op: -1}, {Op: 11}, {Op: api.NumX, Name: "N"}, {Op: api.NumX, N: 1}, {Op: api.NumX, W: -1}, {Op: api.NumX, W: 65}, {Op: api.NumX, W: 4, V: 16}, {Op: api.NumX, L: []api.X{one}}, {Op: api.NumX, W: 8, L: []api.X{one}},
		{Op: api.NameX}, name("in"), name("0a"), {Op: api.NameX, Name: "N", V: 1}, {Op: api.NameX, Name: "N", L: []api.X{one}}, {Op: api.SliceX, Name: "N", L: []api.X{one}}, {Op: api.IndexX, Name: "N"}, {Op: api.IndexX, L: []api.X{one}},
		of(api.UnX, 0, one), of(api.UnX, 7, one), of(api.UnX, api.NoO), of(api.UnX, api.NoO, one, one), {Op: api.UnX, N: api.NoO, Name: "N", L: []api.X{one}}, {Op: api.UnX, N: api.NoO, W: 1, L: []api.X{one}},
		of(api.BinX, 10, one, one), of(api.BinX, 27, one, one), of(api.BinX, api.AddO, one), of(api.BinX, api.AddO, one, one, one), {Op: api.BinX, N: api.AddO, V: 1, L: []api.X{one, one}},
		of(api.CondX, 0, one, one), of(api.CondX, 0, one, one, one, one), of(api.CondX, 1, one, one, one), of(api.CatX, 0), of(api.RepX, 0, one), of(api.ExtX, 30, one, one), of(api.ExtX, api.CutO, one), deep, great,
	}
}

// TestEvalOfWhatMayNotBe: that is told ahead of all else, wherever it stands.
func TestEvalOfWhatMayNotBe(t *testing.T) {
	one := number(0, 1)
	for _, x := range wrong() {
		for _, x := range []api.X{
			x, of(api.UnX, api.NoO, x), of(api.BinX, api.AddO, name("M"), x), of(api.BinX, api.AndO, x, one), of(api.CondX, 0, one, one, x), of(api.CondX, 0, number(0, 0), x, one), of(api.CatX, 0, number(8, 1), x), {Op: api.IndexX, Name: "N", L: []api.X{x}},
		} {
			evals(t, x, constants(), 0, api.ErrArg)
			if v, e := konst.Width(x, constants()); v != 0 || e != api.ErrArg {
				t.Errorf("Width %v: %d, error %d", brief(x), v, e)
			}
			if b, e := konst.Number(x, constants()); b != (api.Bits{}) || e != api.ErrArg {
				t.Errorf("Number %v: %v, error %d", brief(x), b, e)
			}
		}
	}
}

func TestWidth(t *testing.T) {
	type answer struct {
		w int
		e api.Errno
	}
	for text, want := range map[string]answer{
		"1": {1, api.OK}, "N": {3, api.OK}, "63": {63, api.OK}, "64": {64, api.OK}, "N << 2": {12, api.OK}, "N == 3": {1, api.OK}, "0 ? M : 8": {8, api.OK},
		"0": {0, api.ErrWide}, "Z": {0, api.ErrWide}, "N - 3": {0, api.ErrWide}, "65": {0, api.ErrWide}, "66 - 1": {0, api.ErrWide}, "Top": {0, api.ErrWide}, "!N": {0, api.ErrWide},
		"M": {0, api.ErrFree}, "N - 4": {0, api.ErrOver}, "Low": {0, api.ErrOver}, "2147483648": {0, api.ErrOver}, "8'd8": {0, api.ErrKonst}, "-1": {0, api.ErrKonst}, "{N}": {0, api.ErrKonst},
	} {
		if w, e := konst.Width(read(t, text), constants()); (answer{w, e}) != want {
			t.Errorf("Width %q: %d, error %d, want %v", text, w, e, want)
		}
	}
}

func TestNumber(t *testing.T) {
	type answer struct {
		w int
		v uint64
		e api.Errno
	}
	for text, want := range map[string]answer{
		"0": {0, 0, api.OK}, "7": {0, 7, api.OK}, "2147483647": {0, api.MaxConst, api.OK}, "2147483648": {0, 1 << 31, api.OK}, "18446744073709551615": {0, math.MaxUint64, api.OK},
		"1'b0": {1, 0, api.OK}, "8'd255": {8, 255, api.OK}, "4'd3": {4, 3, api.OK}, "64'hffffffffffffffff": {64, math.MaxUint64, api.OK}, "63'd0": {63, 0, api.OK},
		"N": {0, 3, api.OK}, "Z": {0, 0, api.OK}, "Top": {0, api.MaxConst, api.OK}, "N + 1": {0, 4, api.OK}, "!N": {0, 0, api.OK}, "1 ? 7 : M": {0, 7, api.OK},
		"M": {0, 0, api.ErrFree}, "Low": {0, 0, api.ErrOver}, "N - 4": {0, 0, api.ErrOver}, "0 + 2147483648": {0, 0, api.ErrOver}, "1 ? 2147483648 : 1": {0, 0, api.ErrOver}, "1 ? 8'd3 : 1": {0, 0, api.ErrKonst}, "!8'd0": {0, 0, api.ErrKonst}, "8'd1 + 1": {0, 0, api.ErrKonst}, "{8'd1}": {0, 0, api.ErrKonst}, "zext(8, 3)": {0, 0, api.ErrKonst}, "-1": {0, 0, api.ErrKonst},
	} {
		if b, e := konst.Number(read(t, text), constants()); (answer{b.W, b.V, e}) != want {
			t.Errorf("Number %q: %v, error %d, want %v", text, b, e, want)
		}
	}
}

// becomes wants what an expression is with its constants put in.
func becomes(t *testing.T, x api.X, env []api.Named, want api.X) {
	t.Helper()
	if y := konst.Subst(x, env); !ast.SameX(y, want) {
		t.Errorf("Subst %v: %v, want %v", brief(x), brief(y), brief(want))
	}
}

func TestSubst(t *testing.T) {
	for text, want := range map[string]string{
		"N": "3", "Z": "0", "Top": "2147483647", "M": "M", "n": "n", "Low": "Low", "High": "High", "Least": "Least", "Most": "Most", "Wraps": "Wraps", "Off": "Off", "7": "7", "8'd3": "8'd3",
		"N + M": "3 + M", "N - N * Z": "3 - 3 * 0", "!N": "!3", "-~N": "-~3", "N & Low | ^Top": "3 & Low | ^2147483647", "N ? Z : Top": "3 ? 0 : 2147483647", "M ? N : M": "M ? 3 : M",
		"N[0]": "N[0]", "N[N]": "N[3]", "a[N]": "a[3]", "N[N:Z]": "N[3:0]", "Top[M:N + 1]": "Top[M:3 + 1]", "{N}": "{3}", "{N, M, {N, 8'd1}}": "{3, M, {3, 8'd1}}", "{N{N}}": "{3{3}}", "{M{a[N]}}": "{M{a[3]}}", "zext(N, M)": "zext(3, M)", "sext(M, N)": "sext(M, 3)", "trunc(N, N)": "trunc(3, 3)",
	} {
		becomes(t, read(t, text), constants(), read(t, want))
		becomes(t, read(t, text), nil, read(t, text))
	}
}

// TestSubstRaw: expressions that may not be have constants put in as well.
func TestSubstRaw(t *testing.T) {
	env := append(constants(), api.Named{V: 5}, api.Named{Name: "in", V: 6})
	n, three := name("N"), number(0, 3)
	becomes(t, api.X{Op: api.NameX, Name: "N", N: 4, W: 5, V: 6, L: []api.X{n, name("M")}}, env, three)
	becomes(t, api.X{Op: api.NameX}, env, number(0, 5))
	becomes(t, name("in"), env, number(0, 6))
	becomes(t, api.X{}, env, api.X{})
	for _, stays := range []string{"M", "Low", "High", "no name", "Off"} {
		whole := api.X{Op: api.NameX, Name: stays, N: 4, W: 5, V: 6, L: []api.X{n, of(api.UnX, api.NoO, n)}}
		becomes(t, whole, env, whole)
		becomes(t, of(api.CatX, 0, n, whole, n), env, of(api.CatX, 0, three, whole, three))
	}
	for op := -1; op < 13; op++ {
		if op != api.NameX {
			x := api.X{Op: op, Name: "N", N: 44, W: 65, V: 6, L: []api.X{n, name("M"), n, {Op: op, L: []api.X{n}}}}
			want := api.X{Op: op, Name: "N", N: 44, W: 65, V: 6, L: []api.X{three, name("M"), three, {Op: op, L: []api.X{three}}}}
			becomes(t, x, env, want)
		}
	}
}
