package scan

import (
	"strings"

	"filigree/api"
)

// start is where the next token begins, from at on; it is the end, if there is none.
func start(s string, at int) int {
pass:
	if at == len(s) {
		return at
	}
	if isBlank(s[at]) {
		at++
		goto pass
	}
	if strings.HasPrefix(s[at:], "//") {
		at += run(s[at:], inLine)
		goto pass
	}
	return at
}

// token is the one that s begins with, and how many bytes it has.
func token(s string) (api.Token, int, api.Errno) {
	if begins(s[0]) {
		return name(s)
	}
	if isDigit(s[0]) {
		return number(s)
	}
	if found := sign(s); found != "" {
		return api.Token{Kind: api.SignT, S: found}, len(found), api.OK
	}
	return wrong(api.ErrChar)
}

// name is the name, or the word, that s begins with.
func name(s string) (api.Token, int, api.Errno) {
	size := run(s, inName)
	if size > api.MaxName {
		return wrong(api.ErrBound)
	}
	kind := api.NameT
	if Word(s[:size]) {
		kind = api.WordT
	}
	return api.Token{Kind: kind, S: s[:size]}, size, api.OK
}

// sign is the longest sign that s begins with; it is empty, if there is none.
func sign(s string) string {
search:
	for _, one := range signs {
		if len(one) > len(s) {
			continue
		}
		for i := range len(one) {
			if s[i] != one[i] {
				continue search
			}
		}
		return one
	}
	return ""
}

// wrong is what is told of a token that is none.
func wrong(e api.Errno) (api.Token, int, api.Errno) {
	return api.Token{}, 0, e
}

// run is how many bytes of a kind s begins with.
func run(s string, kind func(c byte) bool) int {
	for i := range len(s) {
		if !kind(s[i]) {
			return i
		}
	}
	return len(s)
}

func isBlank(c byte) bool { return c == ' ' || c == '\t' || c == '\n' || c == '\r' }

func isDigit(c byte) bool { return '0' <= c && c <= '9' }

// begins tells whether a name may begin with c.
func begins(c byte) bool { return 'a' <= c && c <= 'z' || 'A' <= c && c <= 'Z' || c == '_' }

func inName(c byte) bool { return begins(c) || isDigit(c) }

func inLine(c byte) bool { return c != '\n' }
