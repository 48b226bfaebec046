package scan

import (
	"math/bits"
	"strings"

	"filigree/api"
)

// base is how digits make a number: there are radix of them, and one more moves the number up by shift bits; without shift it is multiplied.
type base struct {
	radix uint64
	shift uint
}

// number is the one that s begins with.
func number(s string) (api.Token, int, api.Errno) {
	size := run(s, isDigit)
	rest := s[size:]
	if strings.HasPrefix(rest, "'") {
		return wide(s, size)
	}
	if run(rest, inName) > 0 {
		return wrong(api.ErrDigits)
	}
	v, fits := value(s[:size], decimal())
	if !fits {
		return wrong(api.ErrBig)
	}
	return api.Token{Kind: api.NumT, V: v}, size, api.OK
}

// wide is the number that s begins with, if its width ends at a place, where a ' stands.
func wide(s string, end int) (api.Token, int, api.Errno) {
	b, rest, ok := readBase(s[end+1:])
	digits := rest[:run(rest, inName)]
	if !ok || digits == "" || !all(digits, b) {
		return wrong(api.ErrDigits)
	}
	w, widthFits := value(s[:end], decimal())
	v, fits := value(digits, b)
	if !widthFits || w > api.MaxWidth || !fits || !holds(int(w), v) {
		return wrong(api.ErrBig)
	}
	return api.Token{Kind: api.NumT, W: int(w), V: v}, len(s) - len(rest) + len(digits), api.OK
}

// readBase is the base whose letter s begins with, and what stands behind.
func readBase(s string) (base, string, bool) {
	if s == "" {
		return base{}, "", false
	}
	rest := s[1:]
	switch s[0] {
	case 'h':
		return base{radix: 16, shift: 4}, rest, true
	case 'd':
		return decimal(), rest, true
	case 'b':
		return base{radix: 2, shift: 1}, rest, true
	}
	return base{}, "", false
}

func decimal() base { return base{radix: 10} }

// value is the number that digits are, and whether 64 bits hold it.
func value(digits string, b base) (uint64, bool) {
	v, fits := uint64(0), true
	for i := range len(digits) {
		next, carried := b.push(v, worth(digits[i]))
		v, fits = next, fits && carried == 0
	}
	return v, fits
}

// push puts a digit behind a number, and tells what is carried out of its 64 bits.
func (b base) push(v, digit uint64) (uint64, uint64) {
	if b.shift > 0 {
		return v<<b.shift | digit, v >> (64 - b.shift)
	}
	high, low := bits.Mul64(v, b.radix)
	sum, carry := bits.Add64(low, digit, 0)
	return sum, high + carry
}

// all tells whether all bytes are digits of a base.
func all(digits string, b base) bool {
	return run(digits, func(c byte) bool { return worth(c) < b.radix }) == len(digits)
}

// worth is what a digit counts; what is none counts more than those of any base.
func worth(c byte) uint64 {
	switch {
	case isDigit(c):
		return uint64(c - '0')
	case 'a' <= c && c <= 'f':
		return uint64(c-'a') + 10
	case 'A' <= c && c <= 'F':
		return uint64(c-'A') + 10
	}
	return 16
}
