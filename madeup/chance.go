// Package madeup makes up designs and values of chance, of which tests want what the chapters' promises say. What it makes up is the same in each run.
package madeup

import (
	"math"
	"slices"

	"filigree/api"
)

// Chance is numbers that look like chance, and hang on the one with which it begins alone.
type Chance uint64

// Below is a number of 0 up to n less 1.
func (c *Chance) Below(n int) int {
	*c = *c*6364136223846793005 + 1442695040888963407
	return int(uint64(*c>>33) % uint64(n))
}

// Seldom is so once of so many times.
func (c *Chance) Seldom(times int) bool { return c.Below(times) == 0 }

// Bits are a number of w bits: all of them 0, or 1, one of them, a small number, or any.
func (c *Chance) Bits(w int) uint64 {
	some := uint64(c.Below(1<<31))<<33 ^ uint64(c.Below(1<<31))
	numbers := []uint64{0, math.MaxUint64, 1 << c.Below(w), uint64(c.Below(4)), some, some}
	return numbers[c.Below(len(numbers))] & (math.MaxUint64 >> (64 - w))
}

// Values are some that a design's signals can have; of a kind alone, if one is told.
func (c *Chance) Values(d api.Flat, kinds ...int) []uint64 {
	var v []uint64
	for _, s := range d.Signals {
		if len(kinds) == 0 || slices.Contains(kinds, s.Kind) {
			v = append(v, c.Bits(s.W))
		}
	}
	return v
}

// Inputs are so many rows of what a design's inputs can be.
func (c *Chance) Inputs(d api.Flat, rows int) [][]uint64 {
	var ins [][]uint64
	for range rows {
		ins = append(ins, c.Values(d, api.InK))
	}
	return ins
}

// Shuffled is a list in another order.
func Shuffled[N any](c *Chance, l []N) []N {
	l = slices.Clone(l)
	for k := range l {
		n := k + c.Below(len(l)-k)
		l[k], l[n] = l[n], l[k]
	}
	return l
}
