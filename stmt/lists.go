package stmt

import (
	"cmp"
	"iter"

	"filigree/api"
)

// lowestOf is of each signal the number of its lowest bit among all bits, and, behind them, how many bits there are.
func lowestOf(signals []api.Signal) []int {
	lowest := []int{0}
	for k, s := range signals {
		lowest = append(lowest, lowest[k]+s.W)
	}
	return lowest
}

// upTo is the numbers from one on, up to another one, which is none of them.
func upTo(from, end int) iter.Seq[int] {
	return func(yield func(int) bool) {
		for n := from; n < end && yield(n); n++ {
		}
	}
}

// inAll is what is in all of some lists, each of which rises.
func inAll[N cmp.Ordered](lists ...[]N) []N {
	if len(lists) == 0 {
		return nil
	}
	met := lists[0]
	for _, other := range lists[1:] {
		met = inBoth(met, other)
	}
	return met
}

func inBoth[N cmp.Ordered](a, b []N) []N {
	var met []N
	for len(a) > 0 && len(b) > 0 {
		switch {
		case a[0] < b[0]:
			a = a[1:]
		case b[0] < a[0]:
			b = b[1:]
		default:
			met = append(met, a[0])
			a, b = a[1:], b[1:]
		}
	}
	return met
}
