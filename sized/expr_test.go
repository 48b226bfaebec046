package sized_test

import (
	"fmt"
	"reflect"
	"testing"

	"filigree/api"
	"filigree/sized"
)

// sizes wants how wide all is in an expression that is sized to want.
func sizes(t *testing.T, text string, want int, shown string) {
	t.Helper()
	d, e := expression(t, text)
	got, err := sized.Expr(d, e, want)
	if err != api.OK || showE(d, got) != shown {
		t.Errorf("%s to %d:\n got %s, error %d\nwant %s", text, want, showE(d, got), err, shown)
	}
}

// fails wants an error, and nothing else.
func fails(t *testing.T, d api.Flat, e api.E, want int, fault api.Errno) {
	t.Helper()
	got, err := sized.Expr(d, e, want)
	if err != fault || !reflect.DeepEqual(got, api.E{}) {
		t.Errorf("%s to %d: %s, error %d, want error %d", brief(showE(d, e)), want, brief(showE(d, got)), err, fault)
	}
}

// refuses wants that a text is sized to none of some widths.
func refuses(t *testing.T, fault api.Errno, text string, wants ...int) {
	t.Helper()
	d, e := expression(t, text)
	for _, want := range wants {
		fails(t, d, e, want, fault)
	}
}

// upTo is the widths from 0 on that there may be, but for some.
func upTo(last int, but ...int) []int {
	var l []int
	for w := range last + 1 {
		is := false
		for _, one := range but {
			is = is || one == w
		}
		if !is {
			l = append(l, w)
		}
	}
	return l
}

// TestExamples holds the chapter's examples.
func TestExamples(t *testing.T) {
	sizes(t, `a + 1`, 0, `add:8(a[7:0]:8, 1:8)`)
	refuses(t, api.ErrFit, `a == 300`, 0, 1)
	refuses(t, api.ErrSize, `a[2:0] + a`, 0, 3, 8)
}

func TestNumbers(t *testing.T) {
	sizes(t, `5`, 0, `5:32`)
	sizes(t, `5`, 3, `5:3`)
	sizes(t, `5`, 64, `5:64`)
	refuses(t, api.ErrFit, `5`, 1, 2)
	sizes(t, `0`, 1, `0:1`)
	sizes(t, `1`, 1, `1:1`)
	refuses(t, api.ErrFit, `2`, 1)
	sizes(t, `4294967295`, 0, `4294967295:32`)
	sizes(t, `4294967295`, 32, `4294967295:32`)
	refuses(t, api.ErrFit, `4294967295`, 31)
	sizes(t, `4294967296`, 33, `4294967296:33`)
	refuses(t, api.ErrFit, `4294967296`, 0, 32)
	sizes(t, `18446744073709551615`, 64, `18446744073709551615:64`)
	refuses(t, api.ErrFit, `18446744073709551615`, 0, 1, 32, 63)
	sizes(t, `4'd5`, 0, `5:4`)
	sizes(t, `4'd5`, 4, `5:4`)
	refuses(t, api.ErrSize, `4'd5`, upTo(64, 0, 4)...)
	sizes(t, `64'hffffffffffffffff`, 0, `18446744073709551615:64`)
	refuses(t, api.ErrSize, `64'hffffffffffffffff`, upTo(63, 0)...)
}

func TestSignals(t *testing.T) {
	sizes(t, `a`, 0, `a[7:0]:8`)
	sizes(t, `a`, 8, `a[7:0]:8`)
	refuses(t, api.ErrSize, `a`, upTo(64, 0, 8)...)
	sizes(t, `w`, 0, `w[63:0]:64`)
	sizes(t, `k`, 1, `k[0:0]:1`)
	sizes(t, `a[6:2]`, 0, `a[6:2]:5`)
	sizes(t, `a[6:2]`, 5, `a[6:2]:5`)
	refuses(t, api.ErrSize, `a[6:2]`, upTo(64, 0, 5)...)
	sizes(t, `w[63:63]`, 1, `w[63:63]:1`)
	sizes(t, `q`, 4, `q[3:0]:4`)
	sizes(t, `y`, 8, `y[7:0]:8`)
}

func TestOneBitOfASignal(t *testing.T) {
	sizes(t, `a[c]`, 0, `a:1(c[2:0]:3)`)
	sizes(t, `a[c]`, 1, `a:1(c[2:0]:3)`)
	refuses(t, api.ErrSize, `a[c]`, upTo(64, 0, 1)...)
	sizes(t, `a[5]`, 1, `a:1(5:32)`)
	sizes(t, `a[300]`, 1, `a:1(300:32)`)
	sizes(t, `k[w+1]`, 0, `k:1(add:64(w[63:0]:64, 1:64))`)
	sizes(t, `w[a[c[1]]]`, 0, `w:1(a:1(c:1(1:32)))`)
	refuses(t, api.ErrFit, `a[4294967296]`, 0, 1)
	refuses(t, api.ErrSize, `a[4294967296]`, 2, 32)
	refuses(t, api.ErrSize, `a[{w,w}]`, 0, 1)
	refuses(t, api.ErrBit, `a[!c]`, 0, 1)
}

func TestOperationsOfOne(t *testing.T) {
	for sign, word := range map[string]string{`~`: `not`, `-`: `neg`} {
		sizes(t, sign+`a`, 0, word+`:8(a[7:0]:8)`)
		sizes(t, sign+`a`, 8, word+`:8(a[7:0]:8)`)
		refuses(t, api.ErrSize, sign+`a`, upTo(64, 0, 8)...)
		sizes(t, sign+`5`, 0, word+`:32(5:32)`)
		sizes(t, sign+`5`, 3, word+`:3(5:3)`)
		refuses(t, api.ErrFit, sign+`5`, 2)
		sizes(t, sign+`(`+sign+`4'd5)`, 0, word+`:4(`+word+`:4(5:4))`)
	}
	for sign, word := range map[string]string{`&`: `all`, `|`: `any`, `^`: `odd`} {
		sizes(t, sign+`a`, 0, word+`:1(a[7:0]:8)`)
		sizes(t, sign+`a`, 1, word+`:1(a[7:0]:8)`)
		refuses(t, api.ErrSize, sign+`a`, upTo(64, 0, 1)...)
		sizes(t, sign+`5`, 0, word+`:1(5:32)`)
		refuses(t, api.ErrFit, sign+`4294967296`, 0, 1)
		refuses(t, api.ErrSize, sign+`4294967296`, 33, 64)
		sizes(t, sign+`(a+3)`, 1, word+`:1(add:8(a[7:0]:8, 3:8))`)
	}
	sizes(t, `!k`, 0, `no:1(k[0:0]:1)`)
	sizes(t, `!k`, 1, `no:1(k[0:0]:1)`)
	refuses(t, api.ErrSize, `!k`, upTo(64, 0, 1)...)
	refuses(t, api.ErrSize, `!a`, 2, 8)
	refuses(t, api.ErrBit, `!a`, 0, 1)
	refuses(t, api.ErrBit, `!2'd1`, 0, 1)
	refuses(t, api.ErrBit, `!(a+300)`, 0)
	refuses(t, api.ErrBit, `!{w,w}`, 0)
	sizes(t, `!1`, 0, `no:1(1:1)`)
	sizes(t, `!(1+0)`, 0, `no:1(add:1(1:1, 0:1))`)
	refuses(t, api.ErrFit, `!2`, 0, 1)
	refuses(t, api.ErrFit, `!~2`, 0, 1)
	refuses(t, api.ErrSize, `!(1+a)`, upTo(64, 0, 1)...)
	refuses(t, api.ErrBit, `!(1+a)`, 0, 1)
}

func TestOperationsOfTwo(t *testing.T) {
	for sign, word := range map[string]string{`&`: `and`, `|`: `or`, `^`: `xor`, `+`: `add`, `-`: `sub`, `*`: `mul`} {
		sizes(t, `a`+sign+`b`, 0, word+`:8(a[7:0]:8, b[7:0]:8)`)
		sizes(t, `a`+sign+`255`, 8, word+`:8(a[7:0]:8, 255:8)`)
		sizes(t, `255`+sign+`a`, 0, word+`:8(255:8, a[7:0]:8)`)
		sizes(t, `1`+sign+`2`, 0, word+`:32(1:32, 2:32)`)
		sizes(t, `1`+sign+`2`, 7, word+`:7(1:7, 2:7)`)
		sizes(t, `(1`+sign+`2)`+sign+`c`, 0, word+`:3(`+word+`:3(1:3, 2:3), c[2:0]:3)`)
		refuses(t, api.ErrSize, `a`+sign+`b`, upTo(64, 0, 8)...)
		refuses(t, api.ErrSize, `a`+sign+`c`, 0, 3, 8)
		refuses(t, api.ErrSize, `c`+sign+`a`, 0, 3, 8)
		refuses(t, api.ErrFit, `a`+sign+`256`, 0, 8)
		refuses(t, api.ErrFit, `256`+sign+`a`, 0, 8)
		refuses(t, api.ErrFit, `1`+sign+`2`, 1)
	}
	for sign, word := range map[string]string{`<<`: `shl`, `>>`: `shr`} {
		sizes(t, `a`+sign+`c`, 0, word+`:8(a[7:0]:8, c[2:0]:3)`)
		sizes(t, `c`+sign+`a`, 3, word+`:3(c[2:0]:3, a[7:0]:8)`)
		sizes(t, `a`+sign+`300`, 0, word+`:8(a[7:0]:8, 300:32)`)
		sizes(t, `1`+sign+`a`, 0, word+`:32(1:32, a[7:0]:8)`)
		sizes(t, `1`+sign+`a`, 64, word+`:64(1:64, a[7:0]:8)`)
		sizes(t, `1`+sign+`2`, 1, word+`:1(1:1, 2:32)`)
		refuses(t, api.ErrSize, `a`+sign+`c`, upTo(64, 0, 8)...)
		refuses(t, api.ErrFit, `a`+sign+`4294967296`, 0, 8)
		refuses(t, api.ErrFit, `256`+sign+`a`, 8)
		refuses(t, api.ErrSize, `(1`+sign+`a)+a[0:0]`, 2, 8)
		// What has no own width takes none from what it is moved by.
		sizes(t, `(1`+sign+`a)+c`, 0, `add:3(`+word+`:3(1:3, a[7:0]:8), c[2:0]:3)`)
	}
}

func TestComparisons(t *testing.T) {
	for sign, word := range map[string]string{`==`: `eq`, `!=`: `ne`, `<`: `lt`, `<=`: `le`, `>`: `gt`, `>=`: `ge`} {
		sizes(t, `a`+sign+`b`, 0, word+`:1(a[7:0]:8, b[7:0]:8)`)
		sizes(t, `a`+sign+`255`, 1, word+`:1(a[7:0]:8, 255:8)`)
		sizes(t, `255`+sign+`a`, 1, word+`:1(255:8, a[7:0]:8)`)
		sizes(t, `1`+sign+`4294967295`, 0, word+`:1(1:32, 4294967295:32)`)
		sizes(t, `~1`+sign+`(2+v)`, 0, word+`:1(not:33(1:33), add:33(2:33, v[32:0]:33))`)
		refuses(t, api.ErrSize, `a`+sign+`b`, upTo(64, 0, 1)...)
		refuses(t, api.ErrSize, `a`+sign+`300`, 2, 8)
		refuses(t, api.ErrFit, `a`+sign+`300`, 0, 1)
		refuses(t, api.ErrFit, `300`+sign+`a`, 0, 1)
		refuses(t, api.ErrFit, `1`+sign+`4294967296`, 0, 1)
		refuses(t, api.ErrSize, `a`+sign+`c`, 0, 1)
		refuses(t, api.ErrSize, `1`+sign+`{w,w}`, 0, 1)
	}
	for sign, word := range map[string]string{`&&`: `both`, `||`: `one`} {
		sizes(t, `k`+sign+`z`, 0, word+`:1(k[0:0]:1, z[0:0]:1)`)
		sizes(t, `1`+sign+`a[7]`, 1, word+`:1(1:1, a:1(7:32))`)
		sizes(t, `(a==1)`+sign+`0`, 1, word+`:1(eq:1(a[7:0]:8, 1:8), 0:1)`)
		refuses(t, api.ErrSize, `k`+sign+`k`, upTo(64, 0, 1)...)
		refuses(t, api.ErrSize, `a`+sign+`a`, 8)
		refuses(t, api.ErrBit, `a`+sign+`k`, 0, 1)
		refuses(t, api.ErrBit, `k`+sign+`a`, 0, 1)
		refuses(t, api.ErrFit, `2`+sign+`a`, 0, 1)
		refuses(t, api.ErrBit, `a`+sign+`2`, 0, 1)
		refuses(t, api.ErrFit, `k`+sign+`2`, 0, 1)
	}
}

func TestChoices(t *testing.T) {
	sizes(t, `k?a:b`, 0, `cond:8(k[0:0]:1, a[7:0]:8, b[7:0]:8)`)
	sizes(t, `k?a:255`, 8, `cond:8(k[0:0]:1, a[7:0]:8, 255:8)`)
	sizes(t, `1?255:a`, 0, `cond:8(1:1, 255:8, a[7:0]:8)`)
	sizes(t, `k?1:2`, 0, `cond:32(k[0:0]:1, 1:32, 2:32)`)
	sizes(t, `k?1:2`, 2, `cond:2(k[0:0]:1, 1:2, 2:2)`)
	sizes(t, `k?(k?1:c):2`, 0, `cond:3(k[0:0]:1, cond:3(k[0:0]:1, 1:3, c[2:0]:3), 2:3)`)
	sizes(t, `(k?1:2)+a`, 0, `add:8(cond:8(k[0:0]:1, 1:8, 2:8), a[7:0]:8)`)
	// What is chosen by is no part of how wide a choice is.
	sizes(t, `(k?1:2)==q`, 0, `eq:1(cond:4(k[0:0]:1, 1:4, 2:4), q[3:0]:4)`)
	refuses(t, api.ErrBit, `a?a:a`, 0, 8, 64)
	refuses(t, api.ErrFit, `2?a:c`, 0, 3, 8)
	refuses(t, api.ErrSize, `k?a:b`, upTo(64, 0, 8)...)
	refuses(t, api.ErrSize, `k?a:c`, 0, 3, 8)
	refuses(t, api.ErrSize, `k?c:a`, 0, 3, 8)
	refuses(t, api.ErrFit, `k?a:256`, 0, 8)
	refuses(t, api.ErrFit, `k?256:a`, 0, 8)
	refuses(t, api.ErrFit, `k?256:c`, 8)
}

func TestPartsBehindEachOther(t *testing.T) {
	sizes(t, `{a,c}`, 0, `cat:11(a[7:0]:8, c[2:0]:3)`)
	sizes(t, `{a,c}`, 11, `cat:11(a[7:0]:8, c[2:0]:3)`)
	refuses(t, api.ErrSize, `{a,c}`, upTo(64, 0, 11)...)
	sizes(t, `{k}`, 0, `cat:1(k[0:0]:1)`)
	sizes(t, `{w}`, 64, `cat:64(w[63:0]:64)`)
	sizes(t, `{v,v[30:0]}`, 0, `cat:64(v[32:0]:33, v[30:0]:31)`)
	sizes(t, `{{a,c},a+255,4'd3,a[1],zext(5,k)}`, 0, `cat:29(cat:11(a[7:0]:8, c[2:0]:3), add:8(a[7:0]:8, 255:8), 3:4, a:1(1:32), zext:5(k[0:0]:1))`)
	sizes(t, `{1+c,k?1:c,2==3}`, 0, `cat:7(add:3(1:3, c[2:0]:3), cond:3(k[0:0]:1, 1:3, c[2:0]:3), eq:1(2:32, 3:32))`)
	refuses(t, api.ErrSize, `{w,k}`, upTo(64)...)
	refuses(t, api.ErrSize, `{v,v}`, 0, 2, 33, 64)
	refuses(t, api.ErrSize, `{a,1}`, upTo(64)...)
	refuses(t, api.ErrSize, `{1,a}`, 0, 8, 9, 40)
	refuses(t, api.ErrSize, `{1}`, upTo(64)...)
	refuses(t, api.ErrSize, `{a,1<<a}`, 0, 8, 16, 40)
	refuses(t, api.ErrSize, `{a,k?1:2}`, 0, 8, 16, 40)
	refuses(t, api.ErrSize, `{{a,1},a}`, 0)
	refuses(t, api.ErrSize, `{a,k&&a}`, 1, 8, 16)
	refuses(t, api.ErrBit, `{a,k&&a}`, 0, 9)
	refuses(t, api.ErrFit, `{a+256,k&&a}`, 9)
	refuses(t, api.ErrBit, `{k&&a,a+256}`, 9)
	// More bits than there may be are told of the parts that have them, wherever these stand.
	refuses(t, api.ErrSize, `~{w,w}`, 0, 64)
	refuses(t, api.ErrSize, `1+{w,w}`, 0, 64)
	refuses(t, api.ErrSize, `18446744073709551615&{w,k}`, 0)
	refuses(t, api.ErrBit, `!a?{w,w}:{w,w}`, 0)
	refuses(t, api.ErrSize, `trunc(3,{w,w})`, 0, 3)
	refuses(t, api.ErrSize, `|{w,w}`, 0, 1)
}

func TestOtherWidths(t *testing.T) {
	for _, word := range []string{`zext`, `sext`} {
		sizes(t, word+`(16,a)`, 0, word+`:16(a[7:0]:8)`)
		sizes(t, word+`(16,a)`, 16, word+`:16(a[7:0]:8)`)
		refuses(t, api.ErrSize, word+`(16,a)`, upTo(64, 0, 16)...)
		sizes(t, word+`(8,a)`, 0, word+`:8(a[7:0]:8)`)
		refuses(t, api.ErrSize, word+`(7,a)`, 0, 7, 8)
		sizes(t, word+`(32,5)`, 0, word+`:32(5:32)`)
		refuses(t, api.ErrSize, word+`(31,5)`, 0, 31)
		sizes(t, word+`(64,w)`, 0, word+`:64(w[63:0]:64)`)
		refuses(t, api.ErrFit, word+`(7,a+256)`, 0, 7)
		refuses(t, api.ErrSize, word+`(16,a+256)`, 15, 8)
		refuses(t, api.ErrFit, word+`(16,a+256)`, 0, 16)
		refuses(t, api.ErrBit, word+`(1,!a)`, 0, 1)
		sizes(t, word+`(9,a)+`+word+`(9,c+1)`, 0, `add:9(`+word+`:9(a[7:0]:8), `+word+`:9(add:3(c[2:0]:3, 1:3)))`)
	}
	sizes(t, `trunc(3,a)`, 0, `cut:3(a[7:0]:8)`)
	sizes(t, `trunc(3,a)`, 3, `cut:3(a[7:0]:8)`)
	refuses(t, api.ErrSize, `trunc(3,a)`, upTo(64, 0, 3)...)
	sizes(t, `trunc(8,a)`, 0, `cut:8(a[7:0]:8)`)
	refuses(t, api.ErrSize, `trunc(9,a)`, 0, 8, 9)
	sizes(t, `trunc(4,5)`, 0, `cut:4(5:32)`)
	sizes(t, `trunc(32,5)`, 0, `cut:32(5:32)`)
	refuses(t, api.ErrSize, `trunc(33,5)`, 0, 32, 33)
	refuses(t, api.ErrFit, `trunc(9,a+256)`, 0, 9)
	refuses(t, api.ErrSize, `trunc(9,a+256)`, 8)
	refuses(t, api.ErrFit, `trunc(4,4294967296)`, 0, 4)
}

// TestOrder: a node's own error is told ahead of its parts', and those of a part ahead of those of what stands behind it.
func TestOrder(t *testing.T) {
	fit, size, bit := `(a+256)`, `(a+c)`, `(k+!a)`
	wrong := map[string]api.Errno{fit: api.ErrFit, size: api.ErrSize}
	for _, form := range []string{`%s+%s`, `%s==%s`, `%s<<%s`, `{%s,%s}`, `k?%s:%s`, `zext(8,%s)*%s`, `k&&(%s==%s)`, `u[%s]||u[%s]`, `a+(%s^~%s)`} {
		for first, fault := range wrong {
			for second := range wrong {
				refuses(t, fault, fmt.Sprintf(form, first, second), 0)
			}
			refuses(t, fault, fmt.Sprintf(form, first, bit), 0)
			refuses(t, fault, fmt.Sprintf(form, `a`, first), 0)
		}
	}
	refuses(t, api.ErrBit, `a?256+a:a+c`, 0)
	refuses(t, api.ErrFit, `(a==256)?a+c:a+!a`, 0)
	refuses(t, api.ErrSize, `k?a+c:a+256`, 0)
	refuses(t, api.ErrSize, `a+!a`, 0)
	refuses(t, api.ErrBit, `k+!a`, 0)
}

// TestWantedWidths: there are those of 0 to 64, and no others, whatever else is wrong.
func TestWantedWidths(t *testing.T) {
	for _, text := range []string{`1`, `a`, `{w,k}`, `!a`, `a+256`} {
		refuses(t, api.ErrArg, text, -1, 65, 66, 128, -64, 1<<32, 1<<32+8, 1<<62, -1<<63, 1<<63-1)
	}
	for w := 1; w <= 64; w++ {
		sizes(t, `1`, w, fmt.Sprintf(`1:%d`, w))
		sizes(t, `1^~2*3>>4`, max(w, 2), fmt.Sprintf(`xor:%[1]d(1:%[1]d, shr:%[1]d(mul:%[1]d(not:%[1]d(2:%[1]d), 3:%[1]d), 4:32))`, max(w, 2)))
	}
}

// TestWidthsThatStandThere: those of numbers, and of an ExtE, count; those of others may be anything, and are written over.
func TestWidthsThatStandThere(t *testing.T) {
	for _, text := range []string{`a`, `a[c]`, `~a`, `a+1`, `a==b`, `k?a:1`, `{a,c}`, `!k`, `k||0`, `a<<1`} {
		d, e := expression(t, text)
		want, err := sized.Expr(d, e, 0)
		if err != api.OK {
			t.Fatal(text, err)
		}
		for _, w := range []int{0, 1, 8, 64, 65, -1, 1 << 40, -1 << 63, 1<<63 - 1} {
			other := e
			other.W = w
			if got, err := sized.Expr(d, other, 0); err != api.OK || !reflect.DeepEqual(got, want) {
				t.Errorf("%s of W %d: %s, error %d", text, w, showE(d, got), err)
			}
		}
	}
	d, e := expression(t, `zext(9,a)`)
	for w, fault := range map[int]api.Errno{7: api.ErrSize, 0: api.ErrArg, 65: api.ErrArg, -1: api.ErrArg, 1<<32 + 9: api.ErrArg} {
		other := e
		other.W = w
		fails(t, d, other, 0, fault)
	}
}
