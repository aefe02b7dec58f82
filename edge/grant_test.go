package edge

import (
	"math"
	"slices"
	"testing"

	"annona/api"
	"annona/lease"
	"annona/queue"
)

// badLeases are leases of key 5 that a wallet takes of no one, each by one of its ints.
func badLeases() []lease.Lease {
	var l []lease.Lease
	for _, x := range []int{0, -1, -end, math.MinInt} {
		l = append(l, of(5, x, 6, 30), of(5, 7, x, 30))
	}
	for _, x := range []int{1, 6, 7, -1, math.MaxInt, math.MinInt} {
		l = append(l, spent(of(5, 7, 6, 30), x))
	}
	for _, x := range []int{-1, -end, math.MinInt} {
		l = append(l, of(5, 7, 6, x))
	}
	return append(l, lease.Lease{}, lease.Lease{Key: 5})
}

// H1: a lease that may not be serves no one, and changes nothing.
func TestGrantOfBadLeases(t *testing.T) {
	for name, e := range map[string]*Edge{"five": five(t), "new": made(t, theConf())} {
		was := stateOf(e)
		for _, l := range badLeases() {
			for _, now := range []int{0, 9, -1, math.MinInt, math.MaxInt} {
				grants(t, e, l, now)
			}
		}
		was.is(t, name, e)
	}
}

// H1: nor does a lease of a key that has one, even if something is left of that one.
func TestGrantTwice(t *testing.T) {
	e := made(t, theConf())
	grants(t, e, of(5, 7, 4, 30), 0)
	asks(t, e, request(1, 5, 3), 0, yes(1, 7))
	asks(t, e, request(2, 5, 2), 0)
	was := stateOf(e)
	for _, l := range []lease.Lease{of(5, 7, 4, 30), of(5, 8, 9, 40), of(5, 6, 100, math.MaxInt)} {
		grants(t, e, l, 0)
		grants(t, e, l, 50)
	}
	was.is(t, "twice", e)
	// That the one it has would serve: nothing is served by one that is refused.
	f := asked(t, theConf(), request(1, 5, 3))
	if err := f.Put(of(5, 7, 6, 30)); err != api.OK {
		t.Fatalf("Put: error %d", err)
	}
	grants(t, f, of(5, 8, 6, 30), 0)
	grants(t, f, of(5, 0, 6, 30), 0)
	waiting(t, f, item(request(1, 5, 3), 10))
	leases(t, f, of(5, 7, 6, 30))
}

// H1: a lease that serves no one stays, and those that come then are served.
func TestGrantServesNoOne(t *testing.T) {
	e := made(t, theConf())
	grants(t, e, of(5, 7, 4, 30), 0)
	leases(t, e, of(5, 7, 4, 30))
	asks(t, e, request(1, 5, 3), 0, yes(1, 7))
	// Of a key that nobody may ask, or that is none, too.
	for _, key := range []int{-1, math.MinInt, 3 * policy, 8 * policy, math.MaxInt, 2 * policy} {
		grants(t, e, of(key, 7, 4, 30), 0)
	}
	leases(t, e, of(math.MinInt, 7, 4, 30), of(-1, 7, 4, 30), spent(of(5, 7, 4, 30), 3), of(2*policy, 7, 4, 30), of(3*policy, 7, 4, 30), of(8*policy, 7, 4, 30), of(math.MaxInt, 7, 4, 30))
	waiting(t, e)
}

// mixed are four requests of key 5, of which the second and the last but one go ahead, and one of key 6.
func mixed() []api.Request {
	return []api.Request{
		classed(request(1, 5, 3), 2), classed(request(2, 5, 2), 1), classed(request(3, 6, 1), 0), classed(request(4, 5, 4), 1), classed(request(5, 5, 1), 2),
	}
}

// H1: those of its key are served, by classes, and within a class as they came, each with its generation, as long as there is enough.
func TestGrantServes(t *testing.T) {
	order := []int{2, 4, 1, 5}
	costs := []int{2, 4, 3, 1}
	for amount := 1; amount <= 12; amount++ {
		e := asked(t, room(theConf(), 5), mixed()...)
		var want []api.Answer
		left := amount
		for i, id := range order {
			if costs[i] > left {
				break
			}
			left -= costs[i]
			want = append(want, yes(id, 7))
		}
		grants(t, e, of(5, 7, amount, 30), 9, want...)
		leases(t, e, spent(of(5, 7, amount, 30), amount-left))
		var stay []queue.Item
		for _, r := range mixed() {
			if !slices.Contains(want, yes(r.ID, 7)) {
				stay = append(stay, item(r, 10))
			}
		}
		waiting(t, e, stay...)
	}
}

// H1: a first one that costs more than is left holds back all that stand behind it.
func TestGrantHoldsBack(t *testing.T) {
	for _, l := range [][]api.Request{
		{request(1, 5, 7), request(2, 5, 1), request(3, 5, 1)},
		{classed(request(2, 5, 1), 2), classed(request(1, 5, 7), 1)},
		{classed(request(3, 5, 1), 1), classed(request(2, 5, 1), 2), classed(request(1, 5, 7), 0)},
	} {
		e := asked(t, theConf(), l...)
		was := e.Waiting()
		grants(t, e, of(5, 7, 6, 30), 0)
		leases(t, e, of(5, 7, 6, 30))
		waiting(t, e, was...)
		// The next lease serves all of them.
		closes(t, e, 5, 7, 0)
		n := len(e.Grant(of(5, 8, 9, 30), 0))
		if n != len(l) || len(e.Waiting()) != 0 {
			t.Errorf("%d were served, and %v wait", n, e.Waiting())
		}
	}
	// Behind some that are served.
	e := asked(t, theConf(), request(1, 5, 2), request(2, 5, 2), request(3, 5, 3), request(4, 5, 1))
	grants(t, e, of(5, 7, 6, 30), 0, yes(1, 7), yes(2, 7))
	leases(t, e, spent(of(5, 7, 6, 30), 4))
	waiting(t, e, item(request(3, 5, 3), 10), item(request(4, 5, 1), 10))
}

// H1: at its Until a lease serves no one, nor behind it; it stays.
func TestGrantAtUntil(t *testing.T) {
	for _, x := range [][2]int{{0, -1}, {0, math.MinInt}, {30, 29}, {30, 0}, {30, -1}, {math.MaxInt, math.MaxInt - 1}, {math.MaxInt, end}} {
		e := asked(t, theConf(), request(1, 5, 3))
		grants(t, e, of(5, 7, 4, x[0]), x[1], yes(1, 7))
		leases(t, e, spent(of(5, 7, 4, x[0]), 3))
		waiting(t, e)
	}
	for _, x := range [][2]int{{0, 0}, {0, 1}, {30, 30}, {30, 31}, {30, math.MaxInt}, {end, end}, {math.MaxInt, math.MaxInt}} {
		e := asked(t, theConf(), request(1, 5, 3))
		grants(t, e, of(5, 7, 4, x[0]), x[1])
		leases(t, e, of(5, 7, 4, x[0]))
		waiting(t, e, item(request(1, 5, 3), 10))
	}
}

// H1: one whose time is over, and who did not go yet, is served.
func TestGrantServesWhoStillWaits(t *testing.T) {
	e := asked(t, theConf(), request(1, 5, 3), request(2, 5, 3))
	grants(t, e, of(5, 7, 9, 30), 25, yes(1, 7), yes(2, 7))
	waiting(t, e)
	expires(t, e, 25)
}

// H1: of 16 that wait all are served, and their key's next one at once.
func TestGrantServesAll(t *testing.T) {
	e := made(t, room(theConf(), 16))
	var want []api.Answer
	for i := range 16 {
		asks(t, e, classed(request(i, 5, 9), i%3), 0)
	}
	for class := range 3 {
		for i := class; i < 16; i += 3 {
			want = append(want, yes(i, 7))
		}
	}
	grants(t, e, of(5, 7, 16*9+4, 30), 5, want...)
	leases(t, e, spent(of(5, 7, 16*9+4, 30), 16*9))
	asks(t, e, request(50, 5, 4), 5, yes(50, 7))
	waiting(t, e)
}
