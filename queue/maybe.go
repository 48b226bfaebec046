package queue

import "filigree/api"

// numbersEnd is the first number that no event gets, so that the next one can always be counted.
const numbersEnd = 1 << 62

// inOrder tells whether a queue's numbers, and its events, may be, however many these are.
func inOrder(q api.Queue) bool {
	if min(q.Now, q.Delta, q.Next) < 0 {
		return false
	}
	for k, e := range q.List {
		// Who is ahead of the next one is ahead of all behind that, too.
		if !fits(q, e) || k > 0 && !event(q.List[k-1]).ahead(event(e)) {
			return false
		}
	}
	return true
}

// fits tells whether a queue can have an event, whatever others it has.
func fits(q api.Queue, e api.Ev) bool {
	return min(e.T, e.D, e.No, e.Sig) >= 0 && e.No < q.Next && !past(q, e)
}

// past tells whether an event's time and delta are gone by.
func past(q api.Queue, e api.Ev) bool {
	return e.T < q.Now || e.T == q.Now && e.D < q.Delta
}

// pushFault is why an event can't be put in, or OK.
func pushFault(q api.Queue, added api.Ev) api.Errno {
	fault := Check(q)
	switch {
	case fault != api.OK:
		return fault
	case added.D < 0 || added.Sig < 0 || q.Next >= numbersEnd:
		return api.ErrArg
	case past(q, added):
		return api.ErrPast
	case len(q.List) == api.MaxAnds:
		return api.ErrBound
	}
	return api.OK
}

// popFault is why no event can be taken out, or OK.
func popFault(q api.Queue) api.Errno {
	fault := Check(q)
	switch {
	case fault != api.OK:
		return fault
	case Empty(q):
		return api.ErrEmpty
	}
	return api.OK
}
