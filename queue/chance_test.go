package queue_test

import (
	"cmp"
	"math"
	"slices"
	"testing"

	"filigree/api"
	"filigree/madeup"
	"filigree/queue"
)

// number is one of a few, or of the greatest, or any, but none below 0.
func number(c *madeup.Chance) int {
	switch c.Below(8) {
	case 0:
		return math.MaxInt - c.Below(3)
	case 1:
		return int(c.Bits(62))
	}
	return c.Below(4)
}

// made is a queue of chance that may be.
func made(c *madeup.Chance) api.Queue {
	q := api.Queue{Now: number(c), Delta: number(c), Next: c.Below(30)}
	if c.Seldom(10) {
		q.Next = 1<<62 - 1 + c.Below(3)
	}
	if q.Next == 0 {
		return q
	}
	for range c.Below(20) {
		e := api.Ev{T: number(c), D: number(c), No: c.Below(q.Next), Sig: number(c), V: c.Bits(64)}
		if e.T > q.Now || e.T == q.Now && e.D >= q.Delta {
			q.List = append(q.List, e)
		}
	}
	slices.SortFunc(q.List, order)
	q.List = slices.CompactFunc(q.List, func(a, b api.Ev) bool { return order(a, b) == 0 })
	return q
}

func order(a, b api.Ev) int {
	return cmp.Or(cmp.Compare(a.T, b.T), cmp.Compare(a.D, b.D), cmp.Compare(a.No, b.No))
}

// numbers are where a queue's numbers stand.
func numbers(q *api.Queue) []*int {
	l := []*int{&q.Now, &q.Delta, &q.Next}
	for k := range q.List {
		e := &q.List[k]
		l = append(l, &e.T, &e.D, &e.No, &e.Sig)
	}
	return l
}

// spoil changes something of a queue, so that it may be one, or not.
func spoil(c *madeup.Chance, q *api.Queue) {
	n := len(q.List)
	switch {
	case n > 1 && c.Seldom(3):
		k, with := c.Below(n), c.Below(n)
		q.List[k], q.List[with] = q.List[with], q.List[k]
	case n > 0 && c.Seldom(5):
		k := c.Below(n)
		q.List = slices.Insert(q.List, k, q.List[k])
	default:
		l := numbers(q)
		one := l[c.Below(len(l))]
		*one = []int{*one - 1, *one + 1, -1, math.MinInt, number(c), *l[c.Below(len(l))]}[c.Below(6)]
	}
}

// asModel wants that all calls tell what the model does, and tells the errors.
func asModel(t *testing.T, c *madeup.Chance, q api.Queue) (check, push api.Errno) {
	t.Helper()
	m := model{q}
	check = m.check()
	checks(t, "Check", q, check)
	if left, first, e := m.pop(); e == api.OK {
		pops(t, "Pop", q, first, left)
		left, l, _ := m.take()
		takes(t, "Take", q, l, left)
	} else {
		refusedPop(t, "none", q, e)
	}
	one := api.Ev{T: number(c), D: number(c), Sig: number(c), V: c.Bits(64)}
	if n := len(q.List); n > 0 && c.Seldom(2) {
		with := q.List[c.Below(n)]
		one.T, one.D = with.T, with.D+c.Below(2)
	}
	if c.Seldom(10) {
		*[]*int{&one.T, &one.D, &one.Sig}[c.Below(3)] = []int{-1, math.MinInt}[c.Below(2)]
	}
	want, push := m.push(one.T, one.D, one.Sig, one.V)
	if push == api.OK {
		pushes(t, "Push", q, one, want)
	} else {
		refusedPush(t, "Push", q, one, push)
	}
	if e := queue.Empty(q); e != (len(q.List) == 0) {
		t.Errorf("Empty tells %t of %v", e, q)
	}
	return check, push
}

// TestAgainstTheModel: queues of chance, spoilt or not, are dealt with as the chapter's sentences say.
func TestAgainstTheModel(t *testing.T) {
	c := madeup.Chance(1)
	checked, pushed, spoilt := map[api.Errno]int{}, map[api.Errno]int{}, 0
	for range 30000 {
		q := made(&c)
		if e := queue.Check(q); e != api.OK {
			t.Fatalf("error %d of %v", e, q)
		}
		for range c.Below(3) {
			spoil(&c, &q)
			spoilt++
		}
		check, push := asModel(t, &c, q)
		checked[check]++
		pushed[push]++
		if t.Failed() {
			t.FailNow()
		}
	}
	if checked[api.OK] < 10000 || checked[api.ErrArg] < 5000 || pushed[api.OK] < 3000 || pushed[api.ErrArg]-checked[api.ErrArg] < 300 || pushed[api.ErrPast] < 1000 || spoilt < 10000 {
		t.Errorf("%v, %v, %d", checked, pushed, spoilt)
	}
}
