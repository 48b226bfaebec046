package eval_test

import (
	"slices"
	"testing"

	"filigree/api"
	"filigree/eval"
)

// needs wants on which bits an expression hangs.
func needs(t *testing.T, d api.Flat, e api.E, want ...int) {
	t.Helper()
	got, err := eval.Needs(d, e)
	if err != api.OK || !slices.Equal(got, want) {
		t.Errorf("%s needs %d, error %d, want %d", show(d, e), got, err, want)
	}
}

// from is some bits, one behind the other, behind others.
func from(l []int, first, last int) []int {
	for bit := first; bit <= last; bit++ {
		l = append(l, bit)
	}
	return l
}

func TestNeeds(t *testing.T) {
	a, b, w, x := from(nil, 0, 3), from(nil, 4, 11), from(nil, 16, 79), from(nil, 80, 112)
	for text, want := range map[string][]int{
		`5`: nil, `1+2`: nil, `{4'd1,!0}`: nil, `1?2:3`: nil,
		`a`: a, `b`: b, `c`: {12, 13, 14}, `k`: {15}, `w`: w, `x`: x, `y`: from(nil, 113, 120), `u`: from(nil, 121, 128), `q`: from(nil, 129, 132),
		`a[0:0]`: {0}, `a[3:3]`: {3}, `a[2:1]`: {1, 2}, `b[7:7]`: {11}, `b[4:1]`: {5, 6, 7, 8}, `c[1:0]`: {12, 13}, `w[63:62]`: {78, 79}, `x[0:0]`: {80}, `q[3:3]`: {132}, `q[0:0]`: {129},
		`a[1]`: a, `a[9]`: a, `k[0]`: {15}, `k[7]`: {15}, `a[c]`: {0, 1, 2, 3, 12, 13, 14}, `c[a]`: {0, 1, 2, 3, 12, 13, 14}, `a[a[1:1]]`: a, `c[k[b[2:1]]]`: {5, 6, 12, 13, 14, 15}, `b[q[3:2]+2]`: from(slices.Clone(b), 131, 132),
		`~a`: a, `!k`: {15}, `|a[1:0]`: {0, 1}, `a+a`: a, `a+q`: from(slices.Clone(a), 129, 132), `q+a`: from(slices.Clone(a), 129, 132), `a[3:3]==q[0:0]`: {3, 129}, `a*0`: a, `0&a`: a, `a<<99`: a, `0<<a`: a, `k&&0`: {15},
		`k?a[0:0]:c[0:0]`: {0, 12, 15}, `1?a:q`: from(slices.Clone(a), 129, 132), `0?a[0:0]:1`: {0}, `k?1:2`: {15},
		`{k,a[1:1],a[0:0],a[3:3]}`: {0, 1, 3, 15}, `{a,a[2:1],a}`: a, `zext(8,a)`: a, `sext(8,a)`: a, `trunc(1,a)`: a, `trunc(1,w[9:8])`: {24, 25},
		`(w[2:0]+c)==(x[2:0]^q[2:0])`: {12, 13, 14, 16, 17, 18, 80, 81, 82, 129, 130, 131},
	} {
		d, e := expression(t, text)
		needs(t, d, e, want...)
	}
}

// TestNeedsAtTheEnd: of as many bits as there may be each has its number.
func TestNeedsAtTheEnd(t *testing.T) {
	var d api.Flat
	for k := range 64 {
		d.Signals = append(d.Signals, api.Signal{Name: string(rune('A' + k)), W: 64, Kind: api.InK})
	}
	var parts []api.E
	for k := range 64 {
		for lo := 0; lo < 64; lo += 21 {
			needs(t, d, bitsOf(k, lo, lo), 64*k+lo)
		}
		needs(t, d, bitsOf(k, 63, 0), from(nil, 64*k, 64*k+63)...)
		needs(t, d, at(k, num(1, 0)), from(nil, 64*k, 64*k+63)...)
		parts = append(parts, at(63-k, num(6, 0)))
	}
	needs(t, d, of(api.CatE, 0, 64, parts...), from(nil, 0, 4095)...)
}

// TestNeedsOfManySignals: as many signals as there may be.
func TestNeedsOfManySignals(t *testing.T) {
	var d api.Flat
	place := 0
	for k := range 512 {
		d.Signals = append(d.Signals, api.Signal{Name: string(rune(0x4e00 + k)), W: 1 + k*7%15, Kind: 1 + k%4})
	}
	for k, s := range d.Signals {
		needs(t, d, bitsOf(k, s.W-1, 0), from(nil, place, place+s.W-1)...)
		place += s.W
	}
}
