package spell

import (
	"iter"
	"slices"

	"filigree/api"
)

// tokens is what a part of a tree is written as, told one by one.
type tokens = iter.Seq[api.Token]

func word(s string) tokens { return single(api.Token{Kind: api.WordT, S: s}) }

func sign(s string) tokens { return single(api.Token{Kind: api.SignT, S: s}) }

func name(s string) tokens { return single(api.Token{Kind: api.NameT, S: s}) }

func number(w int, v uint64) tokens { return single(api.Token{Kind: api.NumT, W: w, V: v}) }

func single(t api.Token) tokens {
	return func(yield func(t api.Token) bool) { yield(t) }
}

// chain is all parts, one behind the other; of no parts it is nothing.
func chain(parts ...tokens) tokens {
	return flat(slices.Values(parts))
}

// each is all of a list, one behind the other.
func each[N any](l []N, spell func(n N) tokens) tokens {
	return joined(l, chain(), spell)
}

// list is all of a list, with a comma between each two.
func list[N any](l []N, spell func(n N) tokens) tokens {
	return joined(l, sign(","), spell)
}

// joined is all of a list, with the same between each two.
func joined[N any](l []N, between tokens, spell func(n N) tokens) tokens {
	return flat(func(yield func(part tokens) bool) {
		for i, n := range l {
			if i > 0 && !yield(between) || !yield(spell(n)) {
				return
			}
		}
	})
}

func flat(parts iter.Seq[tokens]) tokens {
	return func(yield func(t api.Token) bool) {
		for part := range parts {
			for t := range part {
				if !yield(t) {
					return
				}
			}
		}
	}
}

// round is a part between ( and ).
func round(part tokens) tokens { return chain(sign("("), part, sign(")")) }

// square is a part between [ and ].
func square(part tokens) tokens { return chain(sign("["), part, sign("]")) }

// curly is a part between { and }.
func curly(part tokens) tokens { return chain(sign("{"), part, sign("}")) }
