package queue_test

import (
	"slices"
	"testing"

	"filigree/api"
	"filigree/madeup"
	"filigree/queue"
)

// pusher puts events into a queue, and remembers them in the order in which they came in.
type pusher struct {
	*testing.T
	*madeup.Chance
	q   api.Queue
	all []api.Ev
}

// push puts an event of a time and a delta in.
func (p *pusher) push(t, d int) {
	p.Helper()
	e := api.Ev{T: t, D: d, No: len(p.all), Sig: p.Below(4), V: p.Bits(64)}
	q, fault := queue.Push(p.q, e.T, e.D, e.Sig, e.V)
	if fault != api.OK {
		p.Fatalf("Push tells error %d of %v and %v", fault, p.q, e)
	}
	p.all = append(p.all, e)
	p.stays(q)
}

// stays wants that what there is now may be, and goes on with it.
func (p *pusher) stays(q api.Queue) {
	p.Helper()
	if e := queue.Check(q); e != api.OK || q.Next != len(p.all) {
		p.Fatalf("error %d of %v", e, q)
	}
	p.q = q
}

func (p *pusher) pop() api.Ev {
	p.Helper()
	q, e, fault := queue.Pop(p.q)
	if fault != api.OK || q.Now != e.T || q.Delta != e.D {
		p.Fatalf("Pop tells %v and %v of %v, error %d", e, q, p.q, fault)
	}
	p.stays(q)
	return e
}

func (p *pusher) take() []api.Ev {
	p.Helper()
	q, l, fault := queue.Take(p.q)
	if fault != api.OK || len(l) == 0 || q.Now != l[0].T || q.Delta != l[0].D {
		p.Fatalf("Take tells %v and %v of %v, error %d", l, q, p.q, fault)
	}
	p.stays(q)
	return l
}

// byTime is events in the order of their times and deltas, those of one delta as they came in.
func byTime(l []api.Ev) []api.Ev {
	l = slices.Clone(l)
	slices.SortStableFunc(l, func(a, b api.Ev) int {
		if a.T != b.T {
			return a.T - b.T
		}
		return a.D - b.D
	})
	return l
}

// TestInOrder: all that was put in comes out in order, whether one by one, or all of a delta at once.
func TestInOrder(t *testing.T) {
	c := madeup.Chance(2)
	for range 300 {
		p := &pusher{T: t, Chance: &c}
		for range c.Below(60) {
			p.push(c.Below(4), c.Below(4))
		}
		begin := p.q
		var popped, taken []api.Ev
		for !queue.Empty(p.q) {
			popped = append(popped, p.pop())
		}
		p.q = begin
		for !queue.Empty(p.q) {
			l := p.take()
			if len(taken) > 0 && taken[len(taken)-1].T == l[0].T && taken[len(taken)-1].D == l[0].D {
				t.Fatalf("Take leaves some of %v", l)
			}
			taken = append(taken, l...)
		}
		if want := byTime(p.all); !slices.Equal(popped, want) || !slices.Equal(taken, want) {
			t.Fatalf("%v, and %v, want %v", popped, taken, want)
		}
	}
}

// TestInTurns: events come out in order, none is lost, and none comes twice, when others come in between; of those that there are at a time the first one always comes next.
func TestInTurns(t *testing.T) {
	c := madeup.Chance(3)
	for range 200 {
		p := &pusher{T: t, Chance: &c}
		var out []api.Ev
		there := map[api.Ev]bool{}
		for range 100 {
			if queue.Empty(p.q) || !c.Seldom(3) {
				later := c.Below(3)
				d := c.Below(3)
				if later == 0 {
					d += p.q.Delta
				}
				p.push(p.q.Now+later, d)
				there[p.all[len(p.all)-1]] = true
				continue
			}
			gone := []api.Ev{}
			if c.Seldom(2) {
				gone = p.take()
			} else {
				gone = append(gone, p.pop())
			}
			for _, e := range gone {
				for other := range there {
					if aheadOf(other, e) {
						t.Fatalf("%v comes, while %v is there", e, other)
					}
				}
				delete(there, e)
			}
			out = append(out, gone...)
		}
		for !queue.Empty(p.q) {
			out = append(out, p.pop())
		}
		if want := byTime(p.all); !slices.Equal(out, want) {
			t.Fatalf("%v, want %v", out, want)
		}
	}
}

// TestTakeIsPops: what Take tells, and leaves, is what Pop does for as long as the first event is of that delta.
func TestTakeIsPops(t *testing.T) {
	c := madeup.Chance(4)
	for range 3000 {
		q := made(&c)
		if queue.Empty(q) {
			continue
		}
		first := q.List[0]
		left, want, _ := queue.Take(q)
		var got []api.Ev
		for !queue.Empty(q) && q.List[0].T == first.T && q.List[0].D == first.D {
			var e api.Ev
			q, e, _ = queue.Pop(q)
			got = append(got, e)
		}
		if !slices.Equal(got, want) || !same(q, left) {
			t.Fatalf("%v and %v, want %v and %v", got, q, want, left)
		}
	}
}

// TestPushedWhenPopped: what is put in at the time and the delta that are gone by comes next, behind those that were there.
func TestPushedWhenPopped(t *testing.T) {
	c := madeup.Chance(5)
	p := &pusher{T: t, Chance: &c}
	for _, when := range [][2]int{{1, 1}, {1, 2}, {1, 1}, {2, 0}} {
		p.push(when[0], when[1])
	}
	p.pop()
	p.push(1, 1)
	if l := p.take(); len(l) != 2 || l[0].No != 2 || l[1].No != 4 {
		t.Errorf("%v", l)
	}
	p.push(1, 1)
	if l := p.take(); len(l) != 1 || l[0].No != 5 {
		t.Errorf("%v", l)
	}
	if l := p.take(); len(l) != 1 || l[0].No != 1 {
		t.Errorf("%v", l)
	}
	refusedPush(t, "a delta that is gone by", p.q, api.Ev{T: 1, D: 1}, api.ErrPast)
	p.push(2, 0)
	if l := p.take(); len(l) != 2 || l[0].No != 3 || l[1].No != 6 || !queue.Empty(p.q) {
		t.Errorf("%v", l)
	}
}
