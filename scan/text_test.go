package scan_test

import (
	"bytes"
	"math"
	"slices"
	"strings"
	"testing"

	"filigree/api"
	"filigree/scan"
)

// writes holds Text against what is wanted.
func writes(t *testing.T, want string, l ...api.Token) {
	t.Helper()
	if got, e := scan.Text(l); string(got) != want || e != api.OK {
		t.Errorf("Text(%v) = %.200q, error %d, want %.200q", l, got, e, want)
	}
}

// refuses wants an error of Text, and nothing else.
func refuses(t *testing.T, e api.Errno, l ...api.Token) {
	t.Helper()
	if got, f := scan.Text(l); len(got) > 0 || f != e {
		t.Errorf("Text of %d tokens = %.200q, error %d, want error %d", len(l), got, f, e)
	}
}

func TestText(t *testing.T) {
	writes(t, "")
	writes(t, "", []api.Token{}...)
	writes(t, "a", name("a", 9))
	writes(t, ";", sign(";", 0))
	writes(t, "{\n}\n;\n;", sign("{", 0), sign("}", 0), sign(";", 0), sign(";", 0))
	writes(t, "if ( a ) {\nb = 1 ;\n}\nelse", word("if", 0), sign("(", 0), name("a", 0), sign(")", 0), sign("{", 0), name("b", 0), sign("=", 0), num(0, 1, 0), sign(";", 0), sign("}", 0), word("else", 0))
	writes(t, "a : b , c", name("a", 5), sign(":", 4), name("b", 3), sign(",", 2), name("c", math.MaxInt))
}

func TestTextOfEachToken(t *testing.T) {
	for _, s := range allWords() {
		writes(t, s, word(s, 0))
		writes(t, s+" "+s, word(s, 0), word(s, 0))
	}
	for _, s := range allSigns() {
		between := " "
		if s == ";" || s == "{" || s == "}" {
			between = "\n"
		}
		writes(t, s, sign(s, 0))
		writes(t, s+between+s+between+"x", sign(s, 0), sign(s, 0), name("x", 0))
	}
}

func TestTextOfNumbers(t *testing.T) {
	for _, x := range []struct {
		w    int
		v    uint64
		want string
	}{
		{0, 0, "0"}, {0, 7, "7"}, {0, 10, "10"}, {0, 255, "255"}, {0, math.MaxUint64, "18446744073709551615"},
		{1, 0, "1'h0"}, {1, 1, "1'h1"}, {4, 15, "4'hf"}, {8, 9, "8'h9"}, {8, 10, "8'ha"}, {8, 16, "8'h10"}, {10, 1023, "10'h3ff"}, {64, 0, "64'h0"}, {64, 0x0123456789abcdef, "64'h123456789abcdef"}, {64, math.MaxUint64, "64'hffffffffffffffff"}, {63, math.MaxInt64, "63'h7fffffffffffffff"},
	} {
		writes(t, x.want, num(x.w, x.v, 3))
		writes(t, x.want+" "+x.want, num(x.w, x.v, 3), num(x.w, x.v, 0))
	}
}

// wrongTokens may not be, each for a reason of its own.
func wrongTokens() []api.Token {
	return []api.Token{
		{}, {Kind: -1, S: "a"}, {Kind: 5, S: "a"}, name("", 0), name("in", 0), name("0a", 0), name("a b", 0), name(strings.Repeat("a", 65), 0), name("a", -1), word("a", 0), word("", 0), word("in out", 0), sign(".", 0), sign("", 0), sign("a", 0), sign("<<=", 0),
		num(-1, 0, 0), num(65, 0, 0), num(1, 2, 0), num(63, 1<<63, 0), num(0, 0, -1), {Kind: api.NumT, S: "1", V: 1}, {Kind: api.NameT, S: "a", W: 1}, {Kind: api.WordT, S: "in", V: 1}, {Kind: api.SignT, S: "(", W: 4, V: 3},
	}
}

func TestTextOfTokensThatMayNotBe(t *testing.T) {
	full := slices.Repeat([]api.Token{name("a", 0)}, 40000)
	for _, bad := range wrongTokens() {
		if e := scan.Check(bad); e != api.ErrArg {
			t.Fatalf("Check(%v) = %d", bad, e)
		}
		refuses(t, api.ErrArg, bad)
		refuses(t, api.ErrArg, bad, name("a", 0))
		refuses(t, api.ErrArg, name("a", 0), bad)
		refuses(t, api.ErrArg, append(slices.Clone(full), bad)...)
	}
}

func TestTextThatIsTooLong(t *testing.T) {
	signs := slices.Repeat([]api.Token{sign("(", 0)}, 32769)
	writes(t, strings.Repeat("( ", 32767)+"(", signs[:32768]...)
	refuses(t, api.ErrBound, signs...)
	two := append(signs[:32767:32767], sign("<<", 0))
	writes(t, strings.Repeat("( ", 32767)+"<<", two...)
	refuses(t, api.ErrBound, append(slices.Clone(two), sign(")", 0))...)
	refuses(t, api.ErrBound, append(signs[:32767:32767], num(0, 100, 0))...)
	refuses(t, api.ErrBound, slices.Repeat([]api.Token{num(64, math.MaxUint64, 0)}, 1000000)...)
	// 1008 names of 64 bytes, each with what parts it from the next one, leave room for 16 bytes.
	long := slices.Repeat([]api.Token{name(strings.Repeat("n", 64), 0)}, 1008)
	writes(t, strings.Repeat(long[0].S+" ", 1008)+"64'h123456789abc", append(slices.Clone(long), num(64, 0x123456789abc, 0))...)
	refuses(t, api.ErrBound, append(slices.Clone(long), num(64, 0x123456789abcd, 0))...)
	// A line end counts as a blank does.
	ends := append(slices.Clone(long), slices.Repeat([]api.Token{sign(";", 0)}, 8)...)
	writes(t, strings.Repeat(long[0].S+" ", 1008)+strings.Repeat(";\n", 7)+";", ends...)
	writes(t, strings.Repeat(long[0].S+" ", 1008)+strings.Repeat(";\n", 7)+"<<", append(ends[:1015:1015], sign("<<", 0))...)
	refuses(t, api.ErrBound, append(ends, sign(";", 0))...)
}

func TestTextLeavesItsTokensAlone(t *testing.T) {
	c := chance(3)
	l := c.tokens(50)
	before := slices.Clone(l)
	one, _ := scan.Text(l)
	kept := bytes.Clone(one)
	if !slices.Equal(l, before) {
		t.Error("the tokens were changed")
	}
	two, _ := scan.Text(l)
	for i := range two {
		two[i] = '$'
	}
	if !bytes.Equal(one, kept) {
		t.Error("two answers share their bytes")
	}
}

func TestWhatIsWrittenIsReadAgain(t *testing.T) {
	c := chance(1)
	for n := range 3000 {
		l := c.tokens(n % 120)
		text, e := scan.Text(l)
		if want := modelText(l); e != api.OK || string(text) != want {
			t.Fatalf("Text(%v) = %q, error %d, want %q", l, text, e, want)
		}
		got, place, e := scan.Scan(text)
		if place != 0 || e != api.OK || len(got) != len(l) {
			t.Fatalf("Scan(%q) = %v, %d, error %d", text, got, place, e)
		}
		for i, x := range got {
			if written := modelWrite(l[i]); !bytes.HasPrefix(text[x.At:], []byte(written)) {
				t.Fatalf("%v does not stand at %d of %q", x, x.At, text)
			}
			x.At = 0
			if x != l[i] {
				t.Fatalf("%v was read as %v", l[i], x)
			}
		}
	}
}

func TestWhatIsReadMayBeAndStandsWhereItSays(t *testing.T) {
	c := chance(5)
	gaps := []string{" ", "\t", "\n", "\r\n", "//\n", " // in 4'h $\n  "}
	for range 2000 {
		var text []byte
		for _, x := range c.tokens(c.below(20)) {
			text = append(text, gaps[c.below(len(gaps))]...)
			text = append(text, modelWrite(x)...)
		}
		l, _, e := scan.Scan(text)
		if e != api.OK {
			t.Fatalf("Scan(%q): error %d", text, e)
		}
		for i, x := range l {
			alone, _, e := scan.Scan(text[x.At:])
			x.At = 0
			if scan.Check(l[i]) != api.OK || e != api.OK || len(alone) != len(l)-i || alone[0] != x {
				t.Fatalf("%v of %q: read alone as %v, error %d", l[i], text, alone, e)
			}
		}
	}
}
