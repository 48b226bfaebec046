package sized_test

import (
	"math"
	"slices"
	"strings"
	"testing"

	"filigree/api"
	"filigree/sized"
)

// fewSignals are some of each kind, of 8, 3, 64 and 1 bits.
func fewSignals() []api.Signal {
	return []api.Signal{{Name: "a", W: 8, Kind: api.InK}, {Name: "y", W: 3, Kind: api.OutK}, {Name: "w", W: 64, Kind: api.WireK}, {Name: "q", W: 1, Kind: api.RegK, Init: 1}}
}

func number(w int, v uint64) api.E { return api.E{Op: api.NumE, W: w, V: v} }

func bitsOf(signal, hi, lo int) api.E { return api.E{Op: api.SigE, Sig: signal, Hi: hi, Lo: lo} }

func of(op, n int, l ...api.E) api.E { return api.E{Op: op, N: n, L: l} }

func extended(n, w int, l ...api.E) api.E { return api.E{Op: api.ExtE, N: n, W: w, L: l} }

// argued wants ErrArg of whatever is told expressions of these signals, or never ErrArg.
func argued(t *testing.T, signals []api.Signal, want bool, l ...api.E) {
	t.Helper()
	for _, e := range l {
		for _, d := range []api.Flat{{Signals: signals}, {Signals: signals, Procs: []api.Proc{{L: []api.T{{}}}}, Checks: []api.Check{{E: api.E{Op: -1}}}}} {
			_, err := sized.Expr(d, e, 0)
			if (err == api.ErrArg) != want {
				t.Errorf("Expr of %+v: error %d, want ErrArg %t", e, err, want)
			}
		}
		d := api.Flat{Signals: signals, Checks: []api.Check{{Name: "c", E: e}}}
		if _, err := sized.Size(d); (err == api.ErrArg) != want {
			t.Errorf("Size of a check of %+v: error %d, want ErrArg %t", e, err, want)
		}
	}
}

// TestSignalsThatMayBe holds each field at its edges, for Expr and for Size.
func TestSignalsThatMayBe(t *testing.T) {
	one := number(1, 0)
	good := api.Signal{Name: "s", W: 5, Kind: api.WireK}
	check := func(want bool, change func(s *api.Signal)) {
		t.Helper()
		for at := range 3 {
			l := fewSignals()[:3]
			l[at] = good
			change(&l[at])
			argued(t, l, want, one)
			if err := sized.CheckE(api.Flat{Signals: l}, one); (err == api.ErrArg) != want {
				t.Errorf("CheckE of %v: error %d", l, err)
			}
			if err := sized.Check(api.Flat{Signals: l}); (err == api.ErrArg) != want && err != api.ErrBound {
				t.Errorf("Check of %v: error %d", l, err)
			}
		}
	}
	check(false, func(*api.Signal) {})
	for name, bad := range map[string]bool{"": true, "x": false, "in": false, "9": false, " ": false, "l[0].s": false, "\x00": false, strings.Repeat("n", 1000): false} {
		check(bad, func(s *api.Signal) { s.Name = name })
	}
	for _, w := range []int{-1, 0, 65, 66, 4000, -64, math.MinInt} {
		check(true, func(s *api.Signal) { s.W = w })
	}
	for w := 1; w <= 64; w++ {
		check(false, func(s *api.Signal) { s.W = w })
	}
	for _, kind := range []int{-1, 0, 5, 6, 1 << 32, 1<<32 + 1, math.MinInt, math.MaxInt} {
		check(true, func(s *api.Signal) { s.Kind = kind })
	}
	for kind := api.InK; kind <= api.RegK; kind++ {
		check(false, func(s *api.Signal) { s.Kind = kind })
		for _, init := range []uint64{1, 31, 1 << 63} {
			if kind != api.RegK || init <= 31 {
				check(kind != api.RegK, func(s *api.Signal) { s.Kind, s.Init = kind, init })
			}
		}
	}
	for _, w := range []int{math.MaxInt, 1 << 32, 5000} {
		l := []api.Signal{{Name: "s", W: w, Kind: api.InK}}
		fails(t, api.Flat{Signals: l}, one, 0, api.ErrArg)
	}
}

func TestNamesThatAreAlike(t *testing.T) {
	for n := range 4 {
		for m := range n {
			l := fewSignals()
			l[n].Name = l[m].Name
			argued(t, l, true, number(1, 0))
			l[n].Name += " "
			argued(t, l, false, number(1, 0))
		}
	}
}

func TestNoSignals(t *testing.T) {
	argued(t, nil, false, number(0, 1), number(1, 1))
	argued(t, nil, true, bitsOf(0, 0, 0), api.E{Op: api.IndexE, L: []api.E{number(0, 1)}}, bitsOf(-1, 0, 0))
}

func TestShapesOfNumbers(t *testing.T) {
	for w := 0; w <= 64; w++ {
		argued(t, fewSignals(), false, number(w, 0), number(w, 1))
		if w < 64 {
			argued(t, fewSignals(), w > 0, number(w, 1<<w))
			argued(t, fewSignals(), false, number(w, 1<<w-1))
		}
	}
	argued(t, fewSignals(), false, number(0, math.MaxUint64), number(64, math.MaxUint64))
	argued(t, fewSignals(), true, number(-1, 0), number(65, 0), number(1<<32, 0), number(math.MinInt, 0), number(math.MaxInt, 1), number(63, math.MaxUint64), number(63, 1<<63))
}

func TestShapesOfSignals(t *testing.T) {
	l := fewSignals()
	for signal := -1; signal <= len(l); signal++ {
		for hi := -1; hi < 66; hi++ {
			for _, lo := range []int{-1, 0, 1, hi - 1, hi, hi + 1} {
				may := 0 <= signal && signal < len(l) && 0 <= lo && lo <= hi && hi < l[max(0, signal)%4].W
				argued(t, l, !may, bitsOf(signal, hi, lo))
			}
		}
		part := number(0, 1)
		argued(t, l, signal < 0 || signal >= len(l), api.E{Op: api.IndexE, Sig: signal, L: []api.E{part}})
		argued(t, l, true, api.E{Op: api.IndexE, Sig: signal, Hi: 1, L: []api.E{part}}, api.E{Op: api.IndexE, Sig: signal, Lo: 1, L: []api.E{part}})
	}
	argued(t, l, true, bitsOf(math.MinInt, 0, 0), bitsOf(math.MaxInt, 0, 0), bitsOf(1<<32, 0, 0), bitsOf(2, math.MaxInt, 0), bitsOf(2, 0, math.MinInt), bitsOf(2, math.MaxInt, math.MinInt), bitsOf(2, math.MinInt, math.MaxInt))
}

// shaped are expressions that have a shape, one of each kind.
func shaped() []api.E {
	n := number(0, 1)
	return []api.E{number(8, 200), bitsOf(0, 7, 2), {Op: api.IndexE, Sig: 2, L: []api.E{n}}, of(api.UnE, api.NotO, n), of(api.BinE, api.AddO, n, n), of(api.CondE, 0, n, n, n), of(api.CatE, 0, number(4, 1), number(4, 2)), extended(api.SextO, 40, n)}
}

// TestOtherFieldsAreZero: each field that a kind has not.
func TestOtherFieldsAreZero(t *testing.T) {
	has := map[int]string{api.NumE: "V", api.SigE: "SHL", api.IndexE: "S", api.UnE: "N", api.BinE: "N", api.ExtE: "N"}
	argued(t, fewSignals(), false, shaped()...)
	for _, e := range shaped() {
		for _, field := range []string{"V", "S", "H", "L", "N"} {
			if strings.Contains(has[e.Op], field) {
				continue
			}
			for _, v := range []int{1, -1, 1 << 40, math.MinInt} {
				other := e
				switch field {
				case "V":
					other.V = uint64(v)
				case "S":
					other.Sig = v
				case "H":
					other.Hi = v
				case "L":
					other.Lo = v
				case "N":
					other.N = v
				}
				argued(t, fewSignals(), true, other)
			}
		}
	}
}

func TestOperationsThatThereAre(t *testing.T) {
	n := number(0, 1)
	for k := -40; k < 80; k++ {
		argued(t, fewSignals(), k < api.NotO || k > api.NoO, of(api.UnE, k, n))
		argued(t, fewSignals(), k < api.AndO || k > api.OneO, of(api.BinE, k, n, n))
		argued(t, fewSignals(), k < api.ZextO || k > api.CutO, extended(k, 40, n))
	}
	argued(t, fewSignals(), true, of(api.UnE, math.MinInt, n), of(api.UnE, math.MaxInt, n), of(api.UnE, 1<<32+1, n), of(api.BinE, 1<<32+api.AddO, n, n), extended(1<<32+api.CutO, 3, n))
	for w := -3; w < 70; w++ {
		argued(t, fewSignals(), w < 1 || w > 64, extended(api.ZextO, w, n), extended(api.CutO, w, n))
	}
	argued(t, fewSignals(), true, extended(api.SextO, math.MinInt, n), extended(api.SextO, 1<<32+8, n), extended(api.SextO, math.MaxInt, n))
}

func TestKindsAndParts(t *testing.T) {
	wanted := map[int][]int{api.NumE: {0}, api.SigE: {0}, api.IndexE: {1}, api.UnE: {1}, api.BinE: {2}, api.CondE: {3}, api.CatE: {1, 2, 3, 4, 5}, api.ExtE: {1}}
	for kind := -2; kind < 12; kind++ {
		for parts := range 6 {
			e := of(kind, map[int]int{api.UnE: api.NegO, api.BinE: api.LtO, api.ExtE: api.CutO}[kind], slices.Repeat([]api.E{number(1, 1)}, parts)...)
			if kind == api.ExtE {
				e.W = 1
			}
			argued(t, fewSignals(), !slices.Contains(wanted[kind], parts), e)
		}
	}
	argued(t, fewSignals(), true, api.E{}, api.E{Op: math.MinInt}, api.E{Op: math.MaxInt}, api.E{Op: 1<<32 + api.NumE}, api.E{Op: 256 + api.NumE})
}

// TestShapesWithin: each part has one, wherever it stands.
func TestShapesWithin(t *testing.T) {
	bad := []api.E{{}, number(65, 0), number(2, 4), bitsOf(0, 8, 0), of(api.UnE, 0, number(0, 1)), of(api.CatE, 0)}
	for _, e := range shaped() {
		for k := range e.L {
			for _, part := range bad {
				other := e
				other.L = slices.Clone(e.L)
				other.L[k] = part
				argued(t, fewSignals(), true, other, of(api.UnE, api.NotO, other), of(api.CatE, 0, number(1, 1), other), of(api.CondE, 0, number(1, 1), number(1, 1), of(api.UnE, api.NegO, other)))
			}
		}
	}
	// What has no shape is told ahead of what is too wide, or no bit, ahead of it.
	argued(t, fewSignals(), true, of(api.CatE, 0, number(0, 1), number(8, 256)), of(api.BinE, api.BothO, bitsOf(0, 7, 0), api.E{}))
}

// TestShapesOfStatements holds statements in a process, in a block, in each side of an if, and in arms.
func TestShapesOfStatements(t *testing.T) {
	one, set := number(0, 1), api.T{Op: api.AssignT, Sig: 2, Hi: 4, Lo: 1, E: []api.E{number(0, 1)}}
	block := func(l ...api.T) api.T { return api.T{Op: api.BlockT, L: l} }
	choice := func(l ...api.T) api.T { return api.T{Op: api.IfT, E: []api.E{one}, L: l} }
	arms := func(l ...api.T) api.T { return api.T{Op: api.CaseT, E: []api.E{one}, L: l} }
	last, arm := api.T{Op: api.ArmT}, api.T{Op: api.ArmT, E: []api.E{one, one}}
	want := func(may bool, l ...api.T) {
		t.Helper()
		for _, s := range l {
			for where, in := range []api.T{s, block(s), block(set, s, set), choice(block(s), block()), choice(block(), block(s)), arms(api.T{Op: api.ArmT, L: []api.T{s}}), arms(api.T{Op: api.ArmT, E: []api.E{one}, L: []api.T{set, s}}, last)} {
				d := api.Flat{Signals: fewSignals(), Procs: []api.Proc{{}, {L: []api.T{set, in}}}}
				if _, err := sized.Size(d); (err == api.OK) != may || !may && err != api.ErrArg {
					t.Errorf("%+v, place %d: error %d", s, where, err)
				}
			}
		}
	}
	want(true, set, block(), block(set, set), choice(block(), block()), choice(block(set), block(set)), arms(last), arms(arm, last), arms(arm, arm, api.T{Op: api.ArmT, L: []api.T{set, block()}}))
	want(false, api.T{}, api.T{Op: -1}, api.T{Op: 6}, api.T{Op: math.MinInt}, api.T{Op: math.MaxInt}, api.T{Op: 1<<32 + api.BlockT}, last, arm)
	// Assignments.
	with := func(change func(s *api.T)) api.T {
		s := set
		change(&s)
		return s
	}
	want(false, with(func(s *api.T) { s.Sig = -1 }), with(func(s *api.T) { s.Sig = 4 }), with(func(s *api.T) { s.Hi = 64 }), with(func(s *api.T) { s.Lo = 5 }), with(func(s *api.T) { s.Lo = -1 }), with(func(s *api.T) { s.Sig, s.Hi = 1, 3 }),
		with(func(s *api.T) { s.E = nil }), with(func(s *api.T) { s.E = []api.E{one, one} }), with(func(s *api.T) { s.L = []api.T{block()} }), with(func(s *api.T) { s.E = []api.E{{}} }), with(func(s *api.T) { s.E = []api.E{of(api.CatE, 0)} }))
	want(true, with(func(s *api.T) { s.Lo = 4 }), with(func(s *api.T) { s.Hi, s.Lo = 63, 0 }), with(func(s *api.T) { s.Sig, s.Hi = 1, 2 }))
	// Ifs.
	want(false, choice(), choice(block()), choice(block(), block(), block()), choice(set, block()), choice(block(), set), choice(block(), choice(block(), block())), choice(block(), last), choice(last, block()), choice(block(last), block()), choice(block(), block(arm)),
		api.T{Op: api.IfT, L: []api.T{block(), block()}}, api.T{Op: api.IfT, E: []api.E{one, one}, L: []api.T{block(), block()}}, api.T{Op: api.IfT, E: []api.E{{}}, L: []api.T{block(), block()}})
	// Cases.
	want(false, arms(), arms(arm), arms(last, arm), arms(last, last), arms(arm, last, last), arms(arm, arm), arms(last, arm, last), arms(block()), arms(block(), last), arms(arm, block()), arms(set, last), arms(arm, api.T{}, last), arms(arm, last, block()),
		api.T{Op: api.CaseT, L: []api.T{last}}, api.T{Op: api.CaseT, E: []api.E{one, one}, L: []api.T{last}}, api.T{Op: api.CaseT, E: []api.E{{}}, L: []api.T{last}},
		arms(api.T{Op: api.ArmT, L: []api.T{last}}), arms(api.T{Op: api.ArmT, L: []api.T{arm}}), arms(api.T{Op: api.ArmT, E: []api.E{one}, L: []api.T{last}}, last))
	for _, label := range []api.E{{}, bitsOf(0, 0, 0), of(api.UnE, api.NotO, one), of(api.CatE, 0, number(1, 1)), number(1, 2), number(65, 0), {Op: api.NumE, N: 1}, {Op: api.NumE, L: []api.E{one}}} {
		want(false, arms(api.T{Op: api.ArmT, E: []api.E{label}}, last), arms(arm, api.T{Op: api.ArmT, E: []api.E{one, label}}, last))
	}
	// Blocks.
	want(false, api.T{Op: api.BlockT, E: []api.E{one}}, block(last), block(set, arm), block(block(last)), block(api.T{}))
	// No bits of what assigns nothing.
	for _, s := range []api.T{block(), choice(block(), block()), arms(last)} {
		for _, v := range []int{1, -1, math.MaxInt} {
			sig, hi, lo := s, s, s
			sig.Sig, hi.Hi, lo.Lo = v, v, v
			want(false, sig, hi, lo, choice(block(), block(sig)))
		}
	}
	for _, bad := range []api.T{{Op: api.ArmT, Sig: 1}, {Op: api.ArmT, Hi: 1}, {Op: api.ArmT, Lo: 1}} {
		want(false, arms(bad), arms(arm, bad))
		bad.E = []api.E{one}
		want(false, arms(bad, last))
	}
	for _, bad := range []api.T{{Op: api.BlockT, Sig: 1}, {Op: api.BlockT, Hi: 1}, {Op: api.BlockT, Lo: 1}, {Op: api.BlockT, E: []api.E{one}}} {
		want(false, choice(bad, block()), choice(block(), bad))
	}
}

// TestShapesAheadOfAllElse: of processes, and of checks, wherever they stand, ahead of an Init, a role and a width.
func TestShapesAheadOfAllElse(t *testing.T) {
	for _, items := range []string{`assign y=c;`, `check p:a;`, `comb{} assign y=256;`} {
		bad := laid(t, items)
		bad.Signals[9].Init = 16
		failsAll(t, items, bad, api.ErrFit)
		checks := bad
		checks.Checks = append(slices.Clone(bad.Checks), api.Check{Name: "c"})
		failsAll(t, items, checks, api.ErrArg)
		procs := bad
		procs.Procs = append(slices.Clone(bad.Procs), api.Proc{}, api.Proc{Clocked: true, L: []api.T{{Op: api.BlockT}, {}}})
		failsAll(t, items, procs, api.ErrArg)
		signals := bad
		signals.Signals = append(slices.Clone(bad.Signals), api.Signal{Name: "new", Kind: api.InK})
		failsAll(t, items, signals, api.ErrArg)
	}
}
