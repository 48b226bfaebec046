package scan_test

import (
	"bytes"
	"math"
	"slices"
	"strings"
	"testing"

	"filigree/api"
	"filigree/scan"
)

func name(s string, at int) api.Token { return api.Token{Kind: api.NameT, S: s, At: at} }
func word(s string, at int) api.Token { return api.Token{Kind: api.WordT, S: s, At: at} }
func sign(s string, at int) api.Token { return api.Token{Kind: api.SignT, S: s, At: at} }
func num(w int, v uint64, at int) api.Token {
	return api.Token{Kind: api.NumT, W: w, V: v, At: at}
}

// reads holds Scan against what is wanted.
func reads(t *testing.T, text string, want ...api.Token) {
	t.Helper()
	got, place, e := scan.Scan([]byte(text))
	if !slices.Equal(got, want) || place != 0 || e != api.OK {
		t.Errorf("Scan(%.200q) = %v, %d, error %d, want %v", text, got, place, e, want)
	}
}

// fails wants an error at a place, and nothing else.
func fails(t *testing.T, text string, place int, e api.Errno) {
	t.Helper()
	got, p, f := scan.Scan([]byte(text))
	if len(got) > 0 || p != place || f != e {
		t.Errorf("Scan(%.200q) = %v, %d, error %d, want nothing, %d, error %d", text, got, p, f, place, e)
	}
}

// asModel holds Scan against the model.
func asModel(t *testing.T, text []byte) {
	t.Helper()
	want, place, e := modelScan(text)
	got, p, f := scan.Scan(text)
	if !slices.Equal(got, want) || p != place || f != e {
		t.Fatalf("Scan(%q) = %v, %d, error %d, want %v, %d, error %d", text, got, p, f, want, place, e)
	}
}

func TestExamples(t *testing.T) {
	l := []api.Token{name("a", 0), sign("<=", 1), num(4, 15, 3), sign(";", 7)}
	reads(t, "a<=4'hF;", l...)
	writes(t, "a <= 4'hf ;", l...)
	fails(t, "a $", 2, api.ErrChar)
	reads(t, "8'hff", num(8, 255, 0))
}

func TestWord(t *testing.T) {
	l := allWords()
	if len(l) != 19 {
		t.Fatal(len(l))
	}
	for _, s := range l {
		if !scan.Word(s) {
			t.Errorf("%q is no word", s)
		}
		for _, other := range []string{strings.ToUpper(s), s + "s", "x" + s, s[1:] + "_", " " + s, s + " ", " " + s + " ", s + "\n", s + s} {
			if scan.Word(other) {
				t.Errorf("%q is a word", other)
			}
		}
	}
	for _, s := range []string{"", " ", "  ", "module in", "in out wire", "modul", "odule", "i", "n", "x", "set", "expect", "4", "(", "\x00", "é", strings.Repeat("in ", 1000)} {
		if scan.Word(s) {
			t.Errorf("%q is a word", s)
		}
	}
}

func check(t *testing.T, want api.Errno, l ...api.Token) {
	t.Helper()
	for _, x := range l {
		if e := scan.Check(x); e != want {
			t.Errorf("Check(%v) = %d, want %d", x, e, want)
		}
	}
}

// everyBut is a token with each of the fields changed that a name, a word and a sign do not have.
func everyBut(x api.Token) []api.Token {
	l := []api.Token{x, x, x, x, x, x, x, x}
	l[0].W, l[1].W, l[2].V, l[3].V = 1, -1, 1, math.MaxUint64
	l[4].At, l[5].At = -1, math.MinInt
	l[6].W, l[6].V = 8, 255
	l[7].S += "\x00"
	return l
}

func TestCheckOfNames(t *testing.T) {
	for _, s := range []string{"a", "z", "A", "Z", "_", "__", "a0", "_9", "aZ_09", "Module", "modules", "inn", "i", strings.Repeat("a", 64), strings.Repeat("_", 64)} {
		check(t, api.OK, name(s, 0), name(s, 7), name(s, math.MaxInt))
		check(t, api.ErrArg, everyBut(name(s, 0))...)
		check(t, api.ErrArg, word(s, 0), sign(s, 0), api.Token{Kind: api.NumT, S: s})
	}
	for _, s := range []string{"", " ", "0", "0a", "9_", "a b", " a", "a ", "a\n", "a-b", "a.b", "a[0]", "é", "aé", "a\x00", "@", "`", "{", "a'", strings.Repeat("a", 65), strings.Repeat("a", 1000)} {
		check(t, api.ErrArg, name(s, 0))
	}
	for c := range 256 {
		b := string([]byte{byte(c)})
		letter := strings.Contains("abcdefghijklmnopqrstuvwxyzABCDEFGHIJKLMNOPQRSTUVWXYZ_", b)
		digit := strings.Contains("0123456789", b)
		check(t, map[bool]api.Errno{true: api.OK, false: api.ErrArg}[letter], name(b, 0))
		check(t, map[bool]api.Errno{true: api.OK, false: api.ErrArg}[letter || digit], name("a"+b, 0))
	}
}

func TestCheckOfWordsAndSigns(t *testing.T) {
	for _, s := range allWords() {
		check(t, api.OK, word(s, 0), word(s, math.MaxInt))
		check(t, api.ErrArg, everyBut(word(s, 0))...)
		check(t, api.ErrArg, name(s, 0), sign(s, 0), word(strings.ToUpper(s), 0), word(s+" ", 0))
	}
	if len(allSigns()) != 31 {
		t.Fatal(len(allSigns()))
	}
	for _, s := range allSigns() {
		check(t, api.OK, sign(s, 0), sign(s, math.MaxInt))
		check(t, api.ErrArg, everyBut(sign(s, 0))...)
		check(t, api.ErrArg, name(s, 0), word(s, 0), sign(s+" ", 0), sign(" "+s, 0), sign(s+s+s, 0))
	}
	check(t, api.ErrArg, word("", 0), sign("", 0), word("in out", 0), sign("# (", 0), sign(" ", 0))
	for a := range 256 {
		for b := range 256 {
			for _, s := range []string{string([]byte{byte(a)}), string([]byte{byte(a), byte(b)})} {
				check(t, map[bool]api.Errno{true: api.OK, false: api.ErrArg}[slices.Contains(allSigns(), s)], sign(s, 0))
			}
		}
	}
}

func TestCheckOfNumbers(t *testing.T) {
	for _, v := range []uint64{0, 1, 1 << 31, 1<<63 - 1, 1 << 63, math.MaxUint64} {
		check(t, api.OK, num(0, v, 0), num(0, v, math.MaxInt), num(64, v, 0))
		check(t, api.ErrArg, num(-1, v, 0), num(65, v, 0), num(128, v, 0), num(1<<32, v, 0), num(math.MinInt, v, 0), num(math.MaxInt, v, 0))
		check(t, api.ErrArg, num(0, v, -1), num(64, v, math.MinInt))
		check(t, api.ErrArg, api.Token{Kind: api.NumT, S: "0", V: v}, api.Token{Kind: api.NumT, S: " ", W: 64, V: v})
	}
	for w := 1; w <= 63; w++ {
		most := uint64(1)<<uint(w) - 1
		check(t, api.OK, num(w, 0, 0), num(w, most/2, 0), num(w, most, 0))
		check(t, api.ErrArg, num(w, most+1, 0), num(w, most+2, 0), num(w, math.MaxUint64, 0), num(w, most, -1))
	}
}

func TestCheckOfOtherKinds(t *testing.T) {
	for _, kind := range []int{math.MinInt, -1, 0, 5, 6, 256 + api.NumT, 1<<32 + api.NameT, math.MaxInt} {
		for _, s := range []string{"", "a", "in", "(", "0"} {
			check(t, api.ErrArg, api.Token{Kind: kind, S: s}, api.Token{Kind: kind, S: s, W: 4, V: 3})
		}
	}
}

func TestScanOfNothing(t *testing.T) {
	if l, place, e := scan.Scan(nil); len(l) > 0 || place != 0 || e != api.OK {
		t.Error(l, place, e)
	}
	for _, text := range []string{"", " ", "\t", "\n", "\r", " \t\r\n \n", "//", "///", "// a b", "//\n", "// a // b\n//", "//\xff\x00", "//a\n\n//b\r\n"} {
		reads(t, text)
	}
}

func TestScanOfBlanksAndComments(t *testing.T) {
	reads(t, " a\tb\nc\rd \n", name("a", 1), name("b", 3), name("c", 5), name("d", 7))
	reads(t, "a//b\nc", name("a", 0), name("c", 5))
	reads(t, "a//b\rc", name("a", 0))
	reads(t, "a//$ 1x 9'\xff\n;", name("a", 0), sign(";", 12))
	reads(t, "//a\n//b\n c//", name("c", 9))
	reads(t, "1//\n2", num(0, 1, 0), num(0, 2, 4))
	reads(t, "*//\n*", sign("*", 0), sign("*", 4))
	fails(t, "/", 0, api.ErrChar)
	fails(t, "a / /", 2, api.ErrChar)
	fails(t, "a /\n/ b", 2, api.ErrChar)
	fails(t, "/* a */", 0, api.ErrChar)
	fails(t, "\v", 0, api.ErrChar)
	fails(t, "\f", 0, api.ErrChar)
	fails(t, " \u00a0", 1, api.ErrChar)
	fails(t, "\ufeffa", 0, api.ErrChar)
}

func TestScanOfNamesAndWords(t *testing.T) {
	for _, s := range allWords() {
		reads(t, s, word(s, 0))
		reads(t, " "+s+"_", name(s+"_", 1))
		reads(t, s+"0", name(s+"0", 0))
		reads(t, strings.ToUpper(s), name(strings.ToUpper(s), 0))
		reads(t, s+";"+s, word(s, 0), sign(";", len(s)), word(s, len(s)+1))
	}
	reads(t, "_ a A z Z a0 _9 if_", name("_", 0), name("a", 2), name("A", 4), name("z", 6), name("Z", 8), name("a0", 10), name("_9", 13), name("if_", 16))
	for _, letter := range []string{"a", "_", "Z"} {
		long := letter + strings.Repeat("9", 63)
		reads(t, long, name(long, 0))
		fails(t, long+"0", 0, api.ErrBound)
		fails(t, "  "+long+letter+" $", 2, api.ErrBound)
		reads(t, long+" 0", name(long, 0), num(0, 0, 65))
	}
	fails(t, strings.Repeat("x", 65536), 0, api.ErrBound)
	fails(t, "aé", 1, api.ErrChar)
}

func TestScanOfSigns(t *testing.T) {
	for _, s := range allSigns() {
		reads(t, s, sign(s, 0))
		reads(t, "a "+s+" b", name("a", 0), sign(s, 2), name("b", 3+len(s)))
		reads(t, "1"+s+"1", num(0, 1, 0), sign(s, 1), num(0, 1, 1+len(s)))
	}
	reads(t, "<<=", sign("<<", 0), sign("=", 2))
	reads(t, "<<<", sign("<<", 0), sign("<", 2))
	reads(t, "===!==", sign("==", 0), sign("=", 2), sign("!=", 3), sign("=", 5))
	reads(t, "=>", sign("=", 0), sign(">", 1))
	reads(t, "=<", sign("=", 0), sign("<", 1))
	reads(t, "|||&&&", sign("||", 0), sign("|", 2), sign("&&", 3), sign("&", 5))
	reads(t, "< =", sign("<", 0), sign("=", 2))
	reads(t, "0..3", num(0, 0, 0), sign("..", 1), num(0, 3, 3))
	fails(t, ".", 0, api.ErrChar)
	fails(t, ". .", 0, api.ErrChar)
	fails(t, "...", 2, api.ErrChar)
	fails(t, "a.b", 1, api.ErrChar)
}

func TestScanOfBytesThatBeginNothing(t *testing.T) {
	for c := range 256 {
		b := string([]byte{byte(c)})
		if strings.Contains(" \t\n\rabcdefghijklmnopqrstuvwxyzABCDEFGHIJKLMNOPQRSTUVWXYZ_0123456789#(),{}=:;[]?|^&<>+-*~!", b) {
			if _, _, e := scan.Scan([]byte(b)); e != api.OK {
				t.Errorf("%q: error %d", b, e)
			}
			continue
		}
		fails(t, b, 0, api.ErrChar)
		fails(t, "a "+b+" 1x", 2, api.ErrChar)
		fails(t, "7;"+b, 2, api.ErrChar)
	}
}

func TestScanOfPlainNumbers(t *testing.T) {
	reads(t, "0 7 007 10 2147483648", num(0, 0, 0), num(0, 7, 2), num(0, 7, 4), num(0, 10, 8), num(0, 1<<31, 11))
	reads(t, "18446744073709551615", num(0, math.MaxUint64, 0))
	reads(t, strings.Repeat("0", 60000)+"18446744073709551615", num(0, math.MaxUint64, 0))
	for _, big := range []string{"18446744073709551616", "18446744073709551619", "18446744073709551620", "18446744073709551625", "28446744073709551615", "36893488147419103232", "184467440737095516150", "340282366920938463463374607431768211456", "9" + strings.Repeat("0", 65000)} {
		fails(t, big, 0, api.ErrBig)
		fails(t, "a="+big+";$", 2, api.ErrBig)
		fails(t, " "+big+"x", 1, api.ErrDigits)
		fails(t, big+"_", 0, api.ErrDigits)
	}
	for _, behind := range []string{"a", "z", "A", "Z", "_", "h1", "x10", "e5", "_000"} {
		fails(t, "3"+behind, 0, api.ErrDigits)
		fails(t, "b 30"+behind+"'h1", 2, api.ErrDigits)
	}
	reads(t, "3;4", num(0, 3, 0), sign(";", 1), num(0, 4, 2))
	fails(t, "3é", 1, api.ErrChar)
	fails(t, "3.5", 1, api.ErrChar)
	fails(t, "'h3", 0, api.ErrChar)
}

func TestScanOfWideNumbers(t *testing.T) {
	reads(t, "8'hff 8'hFF 8'd255 8'b11111111", num(8, 255, 0), num(8, 255, 6), num(8, 255, 12), num(8, 255, 19))
	reads(t, "64'h0123456789abcDEF", num(64, 0x0123456789abcdef, 0))
	reads(t, "1'h0 1'd1 1'b0 64'd0", num(1, 0, 0), num(1, 1, 5), num(1, 0, 10), num(64, 0, 15))
	reads(t, "008'h00ff", num(8, 255, 0))
	reads(t, strings.Repeat("0", 30000)+"64'b"+strings.Repeat("0", 30000)+strings.Repeat("1", 64), num(64, math.MaxUint64, 0))
	reads(t, "4'hf;4'hf", num(4, 15, 0), sign(";", 4), num(4, 15, 5))
	reads(t, "4'b1010//'", num(4, 10, 0))
	fails(t, "4'b1010'h1", 7, api.ErrChar)
	fails(t, "4'h1é", 4, api.ErrChar)
	fails(t, "4'h1.", 4, api.ErrChar)
}

func TestScanOfNumbersThatAreTooBig(t *testing.T) {
	for _, x := range []struct{ most, more string }{
		{"1'h1", "1'h2"}, {"1'd1", "1'd2"}, {"1'b1", "1'b10"},
		{"4'hf", "4'h10"}, {"4'd15", "4'd16"}, {"4'b1111", "4'b10000"}, {"31'd2147483647", "31'd2147483648"},
		{"63'h7fffffffffffffff", "63'h8000000000000000"}, {"63'd9223372036854775807", "63'd9223372036854775808"}, {"63'b" + strings.Repeat("1", 63), "63'b1" + strings.Repeat("0", 63)},
		{"64'hffffffffffffffff", "64'h10000000000000000"}, {"64'd18446744073709551615", "64'd18446744073709551616"}, {"64'b" + strings.Repeat("1", 64), "64'b1" + strings.Repeat("0", 64)},
		{"64'h1", "64'h1" + strings.Repeat("0", 16)}, {"64'd1", "64'd1" + strings.Repeat("0", 20)}, {"64'b1", "64'b1" + strings.Repeat("0", 300)},
	} {
		asModel(t, []byte(x.most))
		if _, _, e := scan.Scan([]byte(x.most)); e != api.OK {
			t.Errorf("Scan(%q): error %d", x.most, e)
		}
		fails(t, x.more, 0, api.ErrBig)
		fails(t, "q ="+x.more, 3, api.ErrBig)
	}
	for _, w := range []string{"0", "00", "65", "99", "128", "4294967297", "18446744073709551615", "18446744073709551616", "18446744073709551620", "1" + strings.Repeat("0", 400)} {
		for _, digits := range []string{"'h0", "'d0", "'b0", "'h1", "'hffffffffffffffffffff"} {
			fails(t, w+digits, 0, api.ErrBig)
		}
	}
}

func TestScanOfNumbersWithWrongDigits(t *testing.T) {
	for _, w := range []string{"4", "64", "0", "65", "18446744073709551616"} {
		for _, digits := range []string{"'", "' ", "'h", "'d", "'b", "'h ", "'d;", "'b.", "'H1", "'D1", "'B1", "'o7", "'x1", "'1", "'_1", "''h1", "' h1", "'h 1", "'h'1", "'h_", "'h1_", "'h1_0", "'h_1", "'hg", "'hG", "'hfffffffffffffffffffg", "'d1a", "'da", "'dF", "'d1_", "'b2", "'b12", "'b9", "'ba", "'bb1", "'b1_", "'h1z", "'é", "'h\xff", "'h@", "'h`", "'d:", "'d/", "'\n", "'h\n1"} {
			fails(t, w+digits, 0, api.ErrDigits)
			fails(t, "+ "+w+digits, 2, api.ErrDigits)
		}
	}
}

func TestScanTellsTheFirstFault(t *testing.T) {
	fails(t, "a $ 3x", 2, api.ErrChar)
	fails(t, "a 3x $", 2, api.ErrDigits)
	fails(t, "65'h1 $", 0, api.ErrBig)
	fails(t, strings.Repeat("x", 65)+" $", 0, api.ErrBound)
	fails(t, "(1) 2 @ 18446744073709551616", 6, api.ErrChar)
}

func TestScanOfLongTexts(t *testing.T) {
	for _, c := range []string{" ", "a ", ";", "$ ", "a//", "x"} {
		text := strings.Repeat(c, 65537/len(c)+1)[:65536]
		asModel(t, []byte(text))
		fails(t, text+c[:1], 0, api.ErrBound)
		fails(t, text+"$"+text, 0, api.ErrBound)
	}
	reads(t, strings.Repeat(" ", 65535)+"a", name("a", 65535))
	fails(t, strings.Repeat(" ", 65535)+"$", 65535, api.ErrChar)
	fails(t, strings.Repeat(" ", 65537), 0, api.ErrBound)
	if l, _, e := scan.Scan(bytes.Repeat([]byte{'('}, 65536)); len(l) != 65536 || e != api.OK {
		t.Error(len(l), e)
	}
}

// TestScanOfAllShortTexts goes through all texts of a few bytes, of which each one stands for its kind.
func TestScanOfAllShortTexts(t *testing.T) {
	for a := range 256 {
		asModel(t, []byte{byte(a)})
		for b := range 256 {
			asModel(t, []byte{byte(a), byte(b)})
			asModel(t, []byte{'8', '\'', byte(a), byte(b)})
			asModel(t, []byte{'7', byte(a), byte(b)})
			asModel(t, []byte{'a', byte(a), byte(b), '0'})
		}
	}
	const kinds = "a_F0129'hdb.<=/\n |é$"
	var text [4]byte
	for i := range len(kinds) * len(kinds) * len(kinds) * len(kinds) {
		for k := range text {
			text[k], i = kinds[i%len(kinds)], i/len(kinds)
		}
		asModel(t, text[:])
	}
}

func TestScanOfManyTexts(t *testing.T) {
	c := chance(7)
	parts := []string{"64'h", "4'b", "8'd", "'h", "1844674407370955161", "0", "1", "9", "f", "_", "ab", "in", " ", "\n", "//", "/", "..", ".", "<", "=", "&", "&&", "!", ";", "{", "ffffffffffffffff", "1111111111", "\x80", "$"}
	for range 100000 {
		var text []byte
		for n := c.below(12); n >= 0; n-- {
			// What is wrong is put in seldom, so that long texts are read, too.
			text = append(text, parts[c.below(len(parts)-c.below(2)*2)]...)
			if c.below(3) > 0 {
				text = append(text, ' ')
			}
		}
		asModel(t, text)
	}
}

func TestScanKeepsNothingOfItsText(t *testing.T) {
	text := []byte("module m ( ) { wire abc : 8'hff ; }")
	before := bytes.Clone(text)
	l, _, _ := scan.Scan(text)
	if !bytes.Equal(text, before) {
		t.Error("the text was changed")
	}
	want := slices.Clone(l)
	for i := range text {
		text[i] = '$'
	}
	if !slices.Equal(l, want) || l[1].S != "m" || l[6].S != "abc" {
		t.Error("the tokens were changed with the text", l)
	}
}
