package edge

import (
	"math"
	"testing"

	"annona/api"
	"annona/lease"
)

// H1: what was spent of a key's lease, of that generation; it is gone then.
func TestClose(t *testing.T) {
	e := made(t, theConf())
	grants(t, e, of(5, 7, 9, 30), 0)
	grants(t, e, of(6, 8, 9, 30), 0)
	asks(t, e, request(1, 5, 3), 0, yes(1, 7))
	asks(t, e, request(1, 5, 2), 0, yes(1, 7))
	asks(t, e, request(2, 6, 9), 0, yes(2, 8))
	closes(t, e, 4, 7, -1)
	closes(t, e, 7, 7, -1)
	leases(t, e, spent(of(5, 7, 9, 30), 5), spent(of(6, 8, 9, 30), 9))
	closes(t, e, 5, 7, 5)
	leases(t, e, spent(of(6, 8, 9, 30), 9))
	closes(t, e, 5, 7, -1)
	closes(t, e, 6, 8, 9)
	leases(t, e)
	closes(t, e, 6, 8, -1)
	asks(t, e, waits(request(3, 5, 1), 0), 0, no(3, api.NoCredit))
	grants(t, e, of(5, 9, 4, 30), 0)
	closes(t, e, 5, 9, 0)
}

// H1: -1, if it is of another generation, and it is gone all the same.
func TestCloseOfAnotherGeneration(t *testing.T) {
	for _, gen := range []int{6, 8, 0, -1, -7, 7 + 1<<32, math.MinInt, math.MaxInt} {
		e := made(t, theConf())
		grants(t, e, of(5, 7, 9, 30), 0)
		asks(t, e, request(1, 5, 3), 0, yes(1, 7))
		closes(t, e, 5, gen, -1)
		leases(t, e)
		wants(t, e)
		closes(t, e, 5, 7, -1)
		wants(t, e)
	}
}

// H1: what Close tells is noted, 0 too; -1 isn't.
func TestCloseIsNoted(t *testing.T) {
	e := made(t, bursts(1000))
	grants(t, e, of(5, 7, 90, 30), 0)
	wants(t, e)
	asks(t, e, request(1, 5, 80), 0, yes(1, 7))
	wants(t, e)
	closes(t, e, 5, 7, 80)
	wants(t, e, Want{5, 80})
	// Nothing is noted of a key without a lease, nor of another generation's lease.
	for range 3 {
		closes(t, e, 5, 7, -1)
		closes(t, e, 6, 7, -1)
		wants(t, e, Want{5, 80})
		grants(t, e, of(5, 8, 90, 30), 0)
		asks(t, e, request(1, 5, 90), 0, yes(1, 8))
		closes(t, e, 5, 7, -1)
		wants(t, e, Want{5, 80})
	}
	// The greater one of what was spent, and half of what it was.
	for _, x := range [][2]int{{50, 50}, {20, 25}, {12, 12}, {0, 6}, {3, 3}, {0, 1}} {
		grants(t, e, of(5, 7, 90, 30), 0)
		if x[0] > 0 {
			asks(t, e, request(1, 5, x[0]), 0, yes(1, 7))
		}
		closes(t, e, 5, 7, x[0])
		wants(t, e, Want{5, x[1]})
	}
	grants(t, e, of(5, 7, 90, 30), 0)
	closes(t, e, 5, 7, 0)
	wants(t, e)
}

// H1: what is noted is of its key alone, and serves no one.
func TestCloseBeside(t *testing.T) {
	e := five(t)
	closes(t, e, 9, 2, 5)
	s := fiveIs()
	s.leases = s.leases[:1]
	s.wants = []Want{{5, 9}, {6, 9}, {7, 7}, {9, 5}, {policy + 5, 60}}
	s.is(t, "closed", e)
	closes(t, e, 7, 3, 0)
	s.leases = nil
	s.wants[2].Amount = 3
	s.is(t, "closed, too", e)
}

// H1: leases of generations below go, others stay; nothing is noted of them.
func TestDrop(t *testing.T) {
	l := []lease.Lease{of(5, 3, 9, 30), of(6, 1, 9, 30), of(7, 4, 9, 30), of(8, 3, 9, 30)}
	for gen := -1; gen <= 6; gen++ {
		e := made(t, theConf())
		asks(t, e, request(1, 9, 4), 0)
		var stay []lease.Lease
		for _, x := range l {
			grants(t, e, x, 0)
			asks(t, e, request(2, x.Key, 5), 0, yes(2, x.Gen))
			if x.Gen >= gen {
				stay = append(stay, spent(x, 5))
			}
		}
		for range 2 {
			e.Drop(gen)
			leases(t, e, stay...)
			waiting(t, e, item(request(1, 9, 4), 10))
			wants(t, e, Want{9, 4})
		}
	}
	for _, gen := range []int{math.MinInt, -end, 0, 1} {
		e := five(t)
		e.Drop(gen)
		fiveIs().is(t, "none dropped", e)
	}
	for _, gen := range []int{4, end, math.MaxInt} {
		e := five(t)
		e.Drop(gen)
		s := fiveIs()
		s.leases = nil
		s.is(t, "all dropped", e)
	}
}
