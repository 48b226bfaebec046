package eval_test

import (
	"math"
	"testing"

	"filigree/api"
	"filigree/bitv"
	"filigree/eval"
	"filigree/sized"
)

// is wants what an expression is, of values of the signals.
func is(t *testing.T, d api.Flat, v []uint64, e api.E, want uint64) {
	t.Helper()
	if got, err := eval.Eval(d, v, e); got != want || err != api.OK {
		t.Errorf("%s of %d: %d, error %d, want %d", show(d, e), v, got, err, want)
	}
}

// are wants what texts are.
func are(t *testing.T, texts map[string]uint64) {
	t.Helper()
	for text, want := range texts {
		d, e := expression(t, text)
		is(t, d, values(), e, want)
	}
}

// TestExamples holds the chapter's examples.
func TestExamples(t *testing.T) {
	for text, want := range map[string]struct {
		value  uint64
		folded string
		needs  []int
		after  []int
	}{
		`a[3:1] + 3'd5`: {1, `add:3(a[3:1]:3, 5:3)`, []int{1, 2, 3}, []int{1, 2, 3}},
		`a[2'd3]`:       {1, `a[3:3]:1`, []int{0, 1, 2, 3}, []int{3}},
		`2'd1 + 2'd2`:   {3, `3:2`, nil, nil},
	} {
		d, e := expression(t, text)
		is(t, d, values(), e, want.value)
		folds(t, d, e, want.folded)
		needs(t, d, e, want.needs...)
		folded, _ := eval.Fold(d, e)
		needs(t, d, folded, want.after...)
	}
}

func TestNumbersAndSignals(t *testing.T) {
	are(t, map[string]uint64{
		`5`: 5, `0`: 0, `4294967295`: 1<<32 - 1, `1'd1`: 1, `64'hffffffffffffffff`: math.MaxUint64,
		`a`: 9, `b`: 200, `c`: 5, `k`: 1, `w`: 0x8000000000000001, `x`: 1<<32 | 6, `y`: 0, `u`: 255, `q`: 10,
		`a[0:0]`: 1, `a[1:1]`: 0, `a[2:1]`: 0, `a[3:1]`: 4, `a[3:3]`: 1, `a[3:0]`: 9, `a[2:0]`: 1,
		`w[63:63]`: 1, `w[62:1]`: 0, `w[63:1]`: 1 << 62, `w[62:0]`: 1, `w[63:0]`: 0x8000000000000001,
		`x[32:2]`: 1<<30 | 1, `x[31:1]`: 3, `q[3:2]`: 2, `u[6:3]`: 15,
	})
}

// TestOneBit: a signal has the bits from 0 to its width less 1, and no others.
func TestOneBit(t *testing.T) {
	are(t, map[string]uint64{
		`a[0]`: 1, `a[1]`: 0, `a[2]`: 0, `a[3]`: 1, `a[4]`: 0, `a[64]`: 0, `a[4294967295]`: 0,
		`a[64'd18446744073709551615]`: 0, `a[64'h8000000000000000]`: 0, `a[64'h100000000]`: 0, `a[33'h100000003]`: 0, `a[64'h4000000000000003]`: 0,
		`w[63]`: 1, `w[62]`: 0, `w[64]`: 0, `w[0]`: 1, `w[128]`: 0, `w[192]`: 0, `w[64'hffffffffffffffc0]`: 0,
		`k[0]`: 1, `k[1]`: 0, `u[7]`: 1, `u[8]`: 0, `u[256]`: 0, `x[32]`: 1, `x[33]`: 0, `x[2]`: 1,
		`a[c]`: 0, `b[c]`: 0, `b[c+1]`: 1, `b[c+2]`: 1, `b[c+3]`: 0, `u[c]`: 1, `u[w]`: 0, `u[w[62:0]]`: 1, `w[b]`: 0, `a[a[a]]`: 1, `q[a[2:0]]`: 1, `a[-c]`: 1, `k[~k]`: 1, `u[{k,c}]`: 0, `u[{~k,c}]`: 1,
	})
	for w := 1; w <= 64; w++ {
		d := api.Flat{Signals: []api.Signal{{Name: "a", W: w, Kind: api.InK}}}
		for n := range 130 {
			want := uint64(0)
			if n < w {
				want = 1
			}
			is(t, d, []uint64{bitv.Mask(w)}, at(0, num(8, uint64(n))), want)
			is(t, d, []uint64{0}, at(0, num(8, uint64(n))), 0)
			if n < w {
				is(t, d, []uint64{1 << n}, at(0, num(8, uint64(n))), 1)
				is(t, d, []uint64{bitv.Mask(w) &^ (1 << n)}, at(0, num(8, uint64(n))), 0)
			}
		}
	}
}

func TestOperations(t *testing.T) {
	are(t, map[string]uint64{
		`~a`: 6, `-a`: 7, `~b`: 55, `-b`: 56, `~k`: 0, `-k`: 1, `~w`: 0x7ffffffffffffffe, `-w`: math.MaxInt64, `-y`: 0, `~y`: 255, `~5`: 1<<32 - 6, `-1`: 1<<32 - 1,
		`&a`: 0, `&u`: 1, `&k`: 1, `|a`: 1, `|y`: 0, `|k`: 1, `^a`: 0, `^b`: 1, `^u`: 0, `^x`: 1, `!k`: 0, `!(a==8)`: 1,
		`b&15`: 8, `b|15`: 207, `b^255`: 55, `b+u`: 199, `b+100`: 44, `y-b`: 56, `b-u`: 201, `u*u`: 1, `b*3`: 88, `a*a`: 1, `w+w`: 2, `w*3`: 0x8000000000000003, `w-2`: math.MaxInt64,
		`a<<1`: 2, `a<<3`: 8, `a<<4`: 0, `a<<64`: 0, `a<<w`: 0, `a>>1`: 4, `a>>3`: 1, `a>>4`: 0, `a>>b`: 0, `1<<c`: 32, `w>>63`: 1, `w>>64`: 0, `w<<63`: 1 << 63, `w<<64'hffffffffffffffff`: 0, `u<<(c-1)`: 240, `u>>c`: 7, `b>>a`: 0,
		`a==9`: 1, `a==8`: 0, `a!=9`: 0, `a!=8`: 1, `a<9`: 0, `a<10`: 1, `a<=9`: 1, `a<=8`: 0, `a>9`: 0, `a>8`: 1, `a>=9`: 1, `a>=10`: 0, `w>zext(64,x)`: 1, `zext(64,x)>=w`: 0, `w<64'h8000000000000002`: 1, `x>33'h100000005`: 1,
		`k&&k`: 1, `k&&0`: 0, `0&&k`: 0, `k||0`: 1, `0||k`: 1, `0||0`: 0, `(a>b[3:0])&&!y[0]`: 1,
		`k?a:q`: 9, `~k?a:q`: 10, `a==8?1:2`: 2, `1?b:y`: 200, `0?b:y`: 0,
		`{a}`: 9, `{a,q}`: 154, `{q,a}`: 169, `{c,k,a[0]}`: 23, `{x,x[30:0]}`: (1<<32|6)<<31 | 6, `{w}`: 0x8000000000000001, `{k,w[62:0]}`: 0x8000000000000001, `{y,{k,y[2:0]},k}`: 17, `{2{c}}`: 45, `{64{k}}`: math.MaxUint64,
		`zext(8,a)`: 9, `zext(4,a)`: 9, `zext(64,u)`: 255, `sext(8,a)`: 249, `sext(4,a)`: 9, `sext(64,c)`: math.MaxUint64 - 2, `sext(8,a[2:0])`: 1, `sext(64,w)`: 0x8000000000000001, `sext(2,k)`: 3, `trunc(3,a)`: 1, `trunc(1,b)`: 0, `trunc(4,a)`: 9, `trunc(63,w)`: 1, `trunc(8,300)`: 44,
		`(a+q)*zext(4,c)^~(a<<c[1:0])`: ((9+10)*5 ^ ^(9 << 1)) & 15,
	})
}

// TestParts: what is told of the operations is what layer 1 tells of their parts, whatever these are.
func TestParts(t *testing.T) {
	for wa := 1; wa <= 3; wa++ {
		for wb := 1; wb <= 3; wb++ {
			d := api.Flat{Signals: []api.Signal{{Name: "a", W: wa, Kind: api.InK}, {Name: "b", W: wb, Kind: api.InK}}}
			for k := range 1 << (wa + wb) {
				partsOf(t, d, api.Bits{W: wa, V: uint64(k & (1<<wa - 1))}, api.Bits{W: wb, V: uint64(k >> wa)})
			}
		}
	}
}

func partsOf(t *testing.T, d api.Flat, a, b api.Bits) {
	t.Helper()
	v := []uint64{a.V, b.V}
	as, bs := bitsOf(0, a.W-1, 0), bitsOf(1, b.W-1, 0)
	holds := func(e api.E, want api.Bits, fault api.Errno) {
		t.Helper()
		e.W = want.W
		if fault == api.OK && sized.CheckE(d, e) != api.OK {
			t.Errorf("%s does not fit", show(d, e))
		}
		if fault == api.OK {
			is(t, d, v, e, want.V)
		}
	}
	for op := api.NotO; op <= api.NoO; op++ {
		want, fault := bitv.Un(op, a)
		holds(of(api.UnE, op, 0, as), want, fault)
	}
	for op := api.AndO; op <= api.OneO; op++ {
		want, fault := bitv.Bin(op, a, b)
		holds(of(api.BinE, op, 0, as, bs), want, fault)
	}
	for op := api.ZextO; op <= api.CutO; op++ {
		for w := 1; w <= 4; w++ {
			want, fault := bitv.Ext(op, w, a)
			holds(of(api.ExtE, op, w, as), want, fault)
		}
	}
	want, fault := bitv.Cat(a, b, a)
	holds(of(api.CatE, 0, 0, as, bs, as), want, fault)
	want, fault = bitv.Cond(a, b, api.Bits{W: b.W, V: 1})
	holds(of(api.CondE, 0, 0, as, bs, num(b.W, 1)), want, fault)
}

func TestValues(t *testing.T) {
	d := base(t)
	valued := func(d api.Flat, v []uint64, want api.Errno) {
		t.Helper()
		if err := eval.Values(d, v); err != want {
			t.Errorf("%d: error %d, want %d", v, err, want)
		}
		got, err := eval.Eval(d, v, num(4, 7))
		if err != want || err != api.OK && got != 0 || err == api.OK && got != 7 {
			t.Errorf("of %d: %d, error %d, want error %d", v, got, err, want)
		}
	}
	valued(d, values(), api.OK)
	valued(d, make([]uint64, 9), api.OK)
	for k, s := range d.Signals {
		for v, want := range map[uint64]api.Errno{0: api.OK, bitv.Mask(s.W): api.OK, bitv.Mask(s.W) + 1: api.ErrArg, bitv.Mask(s.W) << 1: api.ErrArg, math.MaxUint64: api.ErrArg} {
			if s.W == 64 {
				want = api.OK
			}
			l := values()
			l[k] = v
			valued(d, l, want)
		}
	}
	valued(d, values()[:8], api.ErrArg)
	valued(d, append(values(), 0), api.ErrArg)
	valued(d, nil, api.ErrArg)
	valued(api.Flat{}, nil, api.OK)
	valued(api.Flat{}, []uint64{}, api.OK)
	valued(api.Flat{}, []uint64{0}, api.ErrArg)
}

// TestAnyKind: values, and expressions, are of signals of each kind.
func TestAnyKind(t *testing.T) {
	for kind := api.InK; kind <= api.RegK; kind++ {
		d := api.Flat{Signals: []api.Signal{{Name: "s", W: 4, Kind: kind}}}
		is(t, d, []uint64{11}, bitsOf(0, 3, 1), 5)
		is(t, d, []uint64{11}, at(0, num(2, 3)), 1)
		folds(t, d, at(0, num(2, 3)), `s[3:3]:1`)
		needs(t, d, bitsOf(0, 2, 1), 1, 2)
	}
	d := api.Flat{Signals: []api.Signal{{Name: "s", W: 4, Kind: api.RegK, Init: 15}}}
	is(t, d, []uint64{0}, bitsOf(0, 3, 0), 0)
	folds(t, d, bitsOf(0, 3, 0), `s[3:0]:4`)
}
