package eval

import (
	"iter"
	"math/bits"

	"filigree/api"
)

// places are the numbers of signals' lowest bits among all bits of a design; behind the last one stands how many bits there are.
type places []int

func placesOf(signals []api.Signal) places {
	p := places{0}
	for k, s := range signals {
		p = append(p, p[k]+s.W)
	}
	return p
}

// bits are those of signals that stand in an expression itself, not in its parts.
func (p places) bits(e api.E) iter.Seq[int] {
	switch e.Op {
	case api.SigE:
		return upTo(p[e.Sig]+e.Lo, p[e.Sig]+e.Hi+1)
	case api.IndexE:
		return upTo(p[e.Sig], p[e.Sig+1])
	}
	return upTo(0, 0)
}

// upTo is the numbers from one on, up to another one, which is none of them.
func upTo(from, end int) iter.Seq[int] {
	return func(yield func(int) bool) {
		for n := from; n < end && yield(n); n++ {
		}
	}
}

// bitSet is a set of a design's bits: as one value, whatever it is joined with.
type bitSet [api.MaxBits / 64]uint64

func (s *bitSet) add(bit int) {
	s[bit/64] |= 1 << (bit % 64)
}

func (s *bitSet) addAll(other bitSet) {
	for k, word := range other {
		s[k] |= word
	}
}

// rising is the bits of a set, the lowest one first.
func (s *bitSet) rising() iter.Seq[int] {
	return func(yield func(int) bool) {
		for k, word := range s {
			for ; word != 0; word &= word - 1 {
				if !yield(64*k + bits.TrailingZeros64(word)) {
					return
				}
			}
		}
	}
}
