package scan_test

import (
	"math/big"
	"regexp"
	"slices"
	"strings"

	"filigree/api"
)

// The model finds tokens by regular expressions, and works numbers out at any length, so that it shares no loop and no carry with the package.

var (
	gapForm   = regexp.MustCompile(`^(?:[ \t\n\r]|//[^\n]*)+`)
	nameForm  = regexp.MustCompile(`^[A-Za-z_][A-Za-z0-9_]*`)
	plainForm = regexp.MustCompile(`^([0-9]+)(?:$|[^A-Za-z0-9_'])`)
	wideForm  = regexp.MustCompile(`^([0-9]+)'(h[0-9a-fA-F]+|d[0-9]+|b[01]+)(?:$|[^A-Za-z0-9_])`)
	digitForm = regexp.MustCompile(`^[0-9]`)
	signForm  = regexp.MustCompile(`^(?:\.\.|<=|>=|\|\||&&|==|!=|<<|>>|[#(),{}=:;\[\]?|^&<>+\-*~!])`)
)

func allWords() []string {
	return strings.Split("module in out wire reg const assign comb on tick inst if else for check case zext sext trunc", " ")
}

func allSigns() []string {
	return strings.Split("# ( ) , { } = : ; [ ] ? | ^ & < > + - * ~ ! .. <= >= || && == != << >>", " ")
}

func modelScan(text []byte) ([]api.Token, int, api.Errno) {
	if len(text) > 65536 {
		return nil, 0, api.ErrBound
	}
	var l []api.Token
	at := 0
	for {
		at += len(gapForm.Find(text[at:]))
		if at == len(text) {
			return l, 0, api.OK
		}
		t, size, e := modelToken(text[at:])
		if e != api.OK {
			return nil, at, e
		}
		t.At = at
		l = append(l, t)
		at += size
	}
}

func modelToken(rest []byte) (api.Token, int, api.Errno) {
	if m := nameForm.Find(rest); m != nil {
		return modelName(string(m))
	}
	if m := wideForm.FindSubmatch(rest); m != nil {
		base := map[byte]int{'h': 16, 'd': 10, 'b': 2}[m[2][0]]
		return modelWide(string(m[1]), string(m[2][1:]), base)
	}
	if m := plainForm.FindSubmatch(rest); m != nil {
		return modelPlain(string(m[1]))
	}
	if digitForm.Match(rest) {
		return api.Token{}, 0, api.ErrDigits
	}
	if m := signForm.Find(rest); m != nil {
		return api.Token{Kind: api.SignT, S: string(m)}, len(m), api.OK
	}
	return api.Token{}, 0, api.ErrChar
}

func modelName(s string) (api.Token, int, api.Errno) {
	if len(s) > 64 {
		return api.Token{}, 0, api.ErrBound
	}
	if slices.Contains(allWords(), s) {
		return api.Token{Kind: api.WordT, S: s}, len(s), api.OK
	}
	return api.Token{Kind: api.NameT, S: s}, len(s), api.OK
}

func modelPlain(digits string) (api.Token, int, api.Errno) {
	v, _ := new(big.Int).SetString(digits, 10)
	if !v.IsUint64() {
		return api.Token{}, 0, api.ErrBig
	}
	return api.Token{Kind: api.NumT, V: v.Uint64()}, len(digits), api.OK
}

func modelWide(width, digits string, base int) (api.Token, int, api.Errno) {
	w, _ := new(big.Int).SetString(width, 10)
	v, _ := new(big.Int).SetString(digits, base)
	if !w.IsUint64() || w.Uint64() < 1 || w.Uint64() > 64 || uint64(v.BitLen()) > w.Uint64() {
		return api.Token{}, 0, api.ErrBig
	}
	return api.Token{Kind: api.NumT, W: int(w.Uint64()), V: v.Uint64()}, len(width) + len(digits) + 2, api.OK
}

// modelWrite is what one token is written as.
func modelWrite(t api.Token) string {
	if t.Kind != api.NumT {
		return t.S
	}
	v := new(big.Int).SetUint64(t.V)
	if t.W == 0 {
		return v.Text(10)
	}
	return big.NewInt(int64(t.W)).Text(10) + "'h" + v.Text(16)
}

func modelText(l []api.Token) string {
	var text strings.Builder
	for i, t := range l {
		text.WriteString(modelWrite(t))
		switch {
		case i == len(l)-1:
		case t.Kind == api.SignT && strings.Contains(";{}", t.S):
			text.WriteString("\n")
		default:
			text.WriteString(" ")
		}
	}
	return text.String()
}

// chance is numbers that look like chance, and are the same in each run.
type chance uint64

func (c *chance) below(n int) int {
	*c = *c*6364136223846793005 + 1442695040888963407
	return int(uint64(*c>>33) % uint64(n))
}

func (c *chance) bits() uint64 {
	return uint64(c.below(1<<31))<<33 ^ uint64(c.below(1<<31))<<13 ^ uint64(c.below(1<<31))
}

// token is one that may be.
func (c *chance) token() api.Token {
	switch c.below(5) {
	case 0:
		return api.Token{Kind: api.NameT, S: c.name()}
	case 1:
		return api.Token{Kind: api.WordT, S: allWords()[c.below(len(allWords()))]}
	case 2:
		return api.Token{Kind: api.NumT, V: c.bits() >> uint(c.below(64))}
	case 3:
		w := 1 + c.below(64)
		return api.Token{Kind: api.NumT, W: w, V: c.bits() >> uint(64-w) >> uint(c.below(w))}
	}
	return api.Token{Kind: api.SignT, S: allSigns()[c.below(len(allSigns()))]}
}

func (c *chance) name() string {
	const letters = "abcdefghijklmnopqrstuvwxyzABCDEFGHIJKLMNOPQRSTUVWXYZ_0123456789"
	s := []byte{letters[c.below(53)]}
	for n := c.below(64); n > 0; n-- {
		s = append(s, letters[c.below(len(letters))])
	}
	if slices.Contains(allWords(), string(s)) {
		return "x"
	}
	return string(s)
}

func (c *chance) tokens(n int) []api.Token {
	l := make([]api.Token, n)
	for i := range l {
		l[i] = c.token()
	}
	return l
}
