package eval_test

import (
	"testing"

	"filigree/api"
	"filigree/eval"
)

// folds wants what an expression is folded to.
func folds(t *testing.T, d api.Flat, e api.E, want string) {
	t.Helper()
	got, err := eval.Fold(d, e)
	if err != api.OK || show(d, got) != want {
		t.Errorf("%s folded:\n got %s, error %d\nwant %s", show(d, e), show(d, got), err, want)
	}
	if hasOtherFields(got) {
		t.Errorf("%s folded: %+v", show(d, e), got)
	}
}

// hasOtherFields tells whether an expression, or one in it, has fields that its kind has not.
func hasOtherFields(e api.E) bool {
	for _, part := range e.L {
		if hasOtherFields(part) {
			return true
		}
	}
	return e.Op != api.NumE && e.V != 0 ||
		e.Op != api.SigE && (e.Hi != 0 || e.Lo != 0) ||
		e.Op != api.SigE && e.Op != api.IndexE && e.Sig != 0 ||
		(e.Op == api.NumE || e.Op == api.SigE || e.Op == api.IndexE || e.Op == api.CondE || e.Op == api.CatE) && e.N != 0 ||
		(e.Op == api.NumE || e.Op == api.SigE) && len(e.L) > 0
}

func foldsTo(t *testing.T, texts map[string]string) {
	t.Helper()
	for text, want := range texts {
		d, e := expression(t, text)
		folds(t, d, e, want)
	}
}

// TestFoldStays: numbers and bits of signals are as they are, and so is what has parts that are no numbers, whatever else may be known of it.
func TestFoldStays(t *testing.T) {
	foldsTo(t, map[string]string{
		`5`: `5:32`, `4'd5`: `5:4`, `64'hffffffffffffffff`: `18446744073709551615:64`,
		`a`: `a[3:0]:4`, `a[2:1]`: `a[2:1]:2`, `q`: `q[3:0]:4`,
		`a[c]`: `a:1(c[2:0]:3)`, `~a`: `not:4(a[3:0]:4)`, `!k`: `no:1(k[0:0]:1)`, `|a`: `any:1(a[3:0]:4)`,
		`a+0`: `add:4(a[3:0]:4, 0:4)`, `a*0`: `mul:4(a[3:0]:4, 0:4)`, `0*a`: `mul:4(0:4, a[3:0]:4)`, `a&0`: `and:4(a[3:0]:4, 0:4)`, `a-a`: `sub:4(a[3:0]:4, a[3:0]:4)`, `a==a`: `eq:1(a[3:0]:4, a[3:0]:4)`, `0&&k`: `both:1(0:1, k[0:0]:1)`, `k||1`: `one:1(k[0:0]:1, 1:1)`, `a<<99`: `shl:4(a[3:0]:4, 99:32)`, `0>>a`: `shr:32(0:32, a[3:0]:4)`, `a<0`: `lt:1(a[3:0]:4, 0:4)`,
		`k?1:1`: `cond:32(k[0:0]:1, 1:32, 1:32)`, `k?a:a`: `cond:4(k[0:0]:1, a[3:0]:4, a[3:0]:4)`,
		`{a}`: `cat:4(a[3:0]:4)`, `{a,4'd1,4'd2}`: `cat:12(a[3:0]:4, 1:4, 2:4)`, `{4'd1,4'd2,k}`: `cat:9(1:4, 2:4, k[0:0]:1)`, `{a[3:2],a[1:0]}`: `cat:4(a[3:2]:2, a[1:0]:2)`,
		`zext(4,a)`: `zext:4(a[3:0]:4)`, `zext(9,a)`: `zext:9(a[3:0]:4)`, `sext(4,a)`: `sext:4(a[3:0]:4)`, `trunc(4,a)`: `cut:4(a[3:0]:4)`, `trunc(1,a)`: `cut:1(a[3:0]:4)`,
		`1+a+1`: `add:4(add:4(1:4, a[3:0]:4), 1:4)`, `a+1+1`: `add:4(add:4(a[3:0]:4, 1:4), 1:4)`,
	})
}

func TestFoldIndex(t *testing.T) {
	foldsTo(t, map[string]string{
		`a[0]`: `a[0:0]:1`, `a[3]`: `a[3:3]:1`, `a[4]`: `0:1`, `a[5]`: `0:1`, `a[4294967295]`: `0:1`,
		`a[64'hffffffffffffffff]`: `0:1`, `a[64'h8000000000000000]`: `0:1`, `a[64'h8000000000000003]`: `0:1`, `a[33'h100000001]`: `0:1`, `a[64'hfffffffffffffffd]`: `0:1`,
		`w[63]`: `w[63:63]:1`, `w[64]`: `0:1`, `w[0]`: `w[0:0]:1`, `k[0]`: `k[0:0]:1`, `k[1]`: `0:1`, `b[7]`: `b[7:7]:1`, `b[8]`: `0:1`, `x[32]`: `x[32:32]:1`, `x[33]`: `0:1`, `q[3]`: `q[3:3]:1`, `q[4]`: `0:1`,
		`a[2'd1+2'd2]`: `a[3:3]:1`, `a[1?2:c]`: `a[2:2]:1`, `a[~0]`: `0:1`, `a[a[7]]`: `a[0:0]:1`, `a[!a[7]]`: `a[1:1]:1`, `a[a[1]]`: `a:1(a[1:1]:1)`, `a[a[c]]`: `a:1(a:1(c[2:0]:3))`, `a[c[1+1]+0]`: `a:1(add:1(c[2:2]:1, 0:1))`,
	})
}

func TestFoldChoice(t *testing.T) {
	foldsTo(t, map[string]string{
		`1?a:q`: `a[3:0]:4`, `0?a:q`: `q[3:0]:4`, `1?1:2`: `1:32`, `0?1:2`: `2:32`, `1?3:a`: `3:4`, `0?3:a`: `a[3:0]:4`,
		`2==2?a+1:q`: `add:4(a[3:0]:4, 1:4)`, `2==3?a+1:q-(1+1)`: `sub:4(q[3:0]:4, 2:4)`, `a[4]?a:q`: `q[3:0]:4`, `!a[4]?a:q`: `a[3:0]:4`, `a[2]?a:q`: `cond:4(a[2:2]:1, a[3:0]:4, q[3:0]:4)`,
		`1?(0?a:q):a`: `q[3:0]:4`, `k?(1?a:q):(0?a:q)`: `cond:4(k[0:0]:1, a[3:0]:4, q[3:0]:4)`, `(1?k:0)?a:q`: `cond:4(k[0:0]:1, a[3:0]:4, q[3:0]:4)`, `(1?0:k)?a:q`: `q[3:0]:4`,
		`k?1+1:2+2`: `cond:32(k[0:0]:1, 2:32, 4:32)`, `(1?2:a)+1`: `3:4`, `(0?2:a)+1`: `add:4(a[3:0]:4, 1:4)`, `{1?a:q}`: `cat:4(a[3:0]:4)`,
	})
}

func TestFoldNumbers(t *testing.T) {
	foldsTo(t, map[string]string{
		`~5`: `4294967290:32`, `~4'd5`: `10:4`, `-4'd5`: `11:4`, `-4'd0`: `0:4`, `&4'd15`: `1:1`, `&4'd7`: `0:1`, `|0`: `0:1`, `|4'd8`: `1:1`, `^7`: `1:1`, `^5`: `0:1`, `!0`: `1:1`, `!1`: `0:1`,
		`12&10`: `8:32`, `12|10`: `14:32`, `12^10`: `6:32`, `4'd12+4'd10`: `6:4`, `4'd3-4'd10`: `9:4`, `4'd7*4'd7`: `1:4`, `3'd3<<1`: `6:3`, `3'd3<<2`: `4:3`, `3'd3<<3`: `0:3`, `3'd6>>1`: `3:3`, `3'd6>>100`: `0:3`,
		`3==3`: `1:1`, `3!=3`: `0:1`, `2<3`: `1:1`, `3<=2`: `0:1`, `3>2`: `1:1`, `2>=3`: `0:1`, `1&&1`: `1:1`, `1&&0`: `0:1`, `0||0`: `0:1`, `0||1`: `1:1`,
		`{4'd5}`: `5:4`, `{4'd5,2'd1}`: `21:6`, `{2'd1,{2'd2,2'd3}}`: `27:6`, `{8{4'd5}}`: `1431655765:32`, `{64{1'd1}}`: `18446744073709551615:64`,
		`zext(8,4'd9)`: `9:8`, `sext(8,4'd9)`: `249:8`, `sext(8,4'd7)`: `7:8`, `trunc(3,4'd9)`: `1:3`, `trunc(4,300)`: `12:4`,
		`a+(1+2)`: `add:4(a[3:0]:4, 3:4)`, `(1+2)*(3+4)`: `21:32`, `(1+2)*(3+c)`: `mul:3(3:3, add:3(3:3, c[2:0]:3))`, `{4'd1+4'd1,a,!(2<3)}`: `cat:9(2:4, a[3:0]:4, 0:1)`, `~~(a|~4'd7)`: `not:4(not:4(or:4(a[3:0]:4, 8:4)))`, `a[4]+1'd1`: `1:1`, `a[4]&k`: `and:1(0:1, k[0:0]:1)`,
		`a==~4'd6`: `eq:1(a[3:0]:4, 9:4)`, `(3==3)&&(2<1||k)`: `both:1(1:1, one:1(0:1, k[0:0]:1))`, `sext(16,trunc(4,200+57))|1`: `1:16`,
	})
}
