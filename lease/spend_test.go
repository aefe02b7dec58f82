package lease

import (
	"math"
	"testing"

	"annona/api"
)

// S1, and the fifth of the whole's examples: what is left ahead of its Until; at it, and behind it, nothing.
func TestLeft(t *testing.T) {
	for _, c := range []struct {
		amount, spent, until int
		now, want            int
	}{
		{6, 0, 30, 0, 6},
		{6, 0, 30, 19, 6},
		{6, 0, 30, 29, 6},
		{6, 0, 30, 30, 0},
		{6, 0, 30, 31, 0},
		{6, 0, 30, math.MaxInt, 0},
		{6, 0, 30, -1, 6},
		{6, 0, 30, -30, 6},
		{6, 0, 30, math.MinInt, 6},
		{6, 1, 30, 29, 5},
		{6, 2, 30, 19, 4},
		{6, 5, 30, 29, 1},
		{6, 5, 30, 30, 0},
		{6, 6, 30, 29, 0},
		{6, 6, 30, -1, 0},
		{6, 6, 30, 30, 0},
		{1, 0, 30, 29, 1},
		{1, 1, 30, 29, 0},
		{6, 0, 1, 0, 6},
		{6, 0, 1, 1, 0},
		{6, 0, 0, -1, 6},
		{6, 2, 0, -1, 4},
		{6, 0, 0, 0, 0},
		{6, 0, 0, 1, 0},
		{6, 0, 0, math.MinInt, 6},
		{6, 0, 0, math.MaxInt, 0},
		{math.MaxInt, 0, math.MaxInt, math.MaxInt - 1, math.MaxInt},
		{math.MaxInt, 0, math.MaxInt, math.MaxInt, 0},
		{math.MaxInt, 1, math.MaxInt, math.MinInt, math.MaxInt - 1},
		{math.MaxInt, math.MaxInt - 1, end, end - 1, 1},
		{math.MaxInt, math.MaxInt, end, end - 1, 0},
	} {
		l := of(5, 7, c.amount, c.until)
		w := with(t, l, of(6, 8, 100, 1000))
		if c.spent > 0 {
			spends(t, w, 5, c.spent, c.until-1, 7, true)
		}
		left(t, w, 5, c.now, c.want)
		has(t, "asked", w, spent(l, c.spent), of(6, 8, 100, 1000))
	}
}

// S1: without a lease of that key nothing is left, whatever other keys have.
func TestLeftOfNone(t *testing.T) {
	w := three(t)
	for _, key := range []int{-5, -4, -2, 0, 4, 6, 65535, 65537, math.MinInt, math.MaxInt} {
		for _, now := range edges() {
			left(t, w, key, now, 0)
		}
	}
	closes(t, w, 5, 7, 0)
	left(t, w, 5, 10, 0)
	left(t, w, 5, -1, 0)
	drops(t, w, 5, 2)
	left(t, w, -3, 10, 0)
	left(t, w, -3, math.MinInt, 0)
	has(t, "gone", w)
}

// S1, and the fifth of the whole's examples: 4 may be spent at 19; at 30 nothing.
func TestSpendExample(t *testing.T) {
	w := with(t, of(5, 7, 6, 30))
	spends(t, w, 5, 2, 10, 7, true)
	left(t, w, 5, 19, 4)
	spends(t, w, 5, 5, 19, 0, false)
	spends(t, w, 5, 4, 30, 0, false)
	spends(t, w, 5, 1, 30, 0, false)
	spends(t, w, 5, 4, 19, 7, true)
	left(t, w, 5, 19, 0)
	has(t, "spent up", w, spent(of(5, 7, 6, 30), 6))
}

// S1: a cost from 1 to what is left is spent; any other one isn't, and changes nothing.
func TestSpendCosts(t *testing.T) {
	for _, c := range []struct {
		amount, spent, cost int
		ok                  bool
	}{
		{6, 0, 1, true},
		{6, 0, 5, true},
		{6, 0, 6, true},
		{6, 0, 7, false},
		{6, 0, 0, false},
		{6, 0, -1, false},
		{6, 0, -6, false},
		{6, 0, math.MinInt, false},
		{6, 0, math.MinInt + 1, false},
		{6, 0, math.MaxInt, false},
		{6, 0, end, false},
		{6, 4, 1, true},
		{6, 4, 2, true},
		{6, 4, 3, false},
		{6, 4, 6, false},
		{6, 4, 0, false},
		{6, 4, -1, false},
		{6, 4, -4, false},
		{6, 4, math.MaxInt, false},
		{6, 4, math.MaxInt - 3, false},
		{6, 4, math.MinInt, false},
		{6, 6, 1, false},
		{6, 6, 0, false},
		{6, 6, -1, false},
		{6, 6, math.MaxInt, false},
		{1, 0, 1, true},
		{1, 0, 2, false},
		{1, 1, 1, false},
		{math.MaxInt, 0, math.MaxInt, true},
		{math.MaxInt, 0, math.MaxInt - 1, true},
		{math.MaxInt, 1, math.MaxInt, false},
		{math.MaxInt, 1, math.MaxInt - 1, true},
		{math.MaxInt, math.MaxInt - 1, 1, true},
		{math.MaxInt, math.MaxInt - 1, 2, false},
		{math.MaxInt, math.MaxInt, math.MaxInt, false},
	} {
		l := of(5, 7, c.amount, 30)
		w := with(t, of(4, 3, 50, 90), l, of(6, 3, 50, 90))
		if c.spent > 0 {
			spends(t, w, 5, c.spent, 0, 7, true)
		}
		if c.ok {
			spends(t, w, 5, c.cost, 29, 7, true)
			l.Spent = c.spent + c.cost
		} else {
			spends(t, w, 5, c.cost, 29, 0, false)
			l.Spent = c.spent
		}
		has(t, "behind a spending", w, of(4, 3, 50, 90), l, of(6, 3, 50, 90))
		left(t, w, 5, 29, c.amount-l.Spent)
	}
}

// S1: a lease may be spent ahead of its Until, not at it, and not behind it.
func TestSpendTimes(t *testing.T) {
	for _, c := range []struct {
		until, now int
		ok         bool
	}{
		{30, 0, true},
		{30, 28, true},
		{30, 29, true},
		{30, 30, false},
		{30, 31, false},
		{30, math.MaxInt, false},
		{30, -1, true},
		{30, -31, true},
		{30, math.MinInt, true},
		{1, 0, true},
		{1, 1, false},
		{0, -1, true},
		{0, 0, false},
		{0, 1, false},
		{0, math.MinInt, true},
		{end, end - 1, true},
		{end, end, false},
		{math.MaxInt, math.MaxInt - 1, true},
		{math.MaxInt, math.MaxInt, false},
		{math.MaxInt, math.MinInt, true},
	} {
		for _, cost := range []int{1, 3, 6} {
			l := of(5, 7, 6, c.until)
			w := with(t, l)
			if c.ok {
				spends(t, w, 5, cost, c.now, 7, true)
				l.Spent = cost
			} else {
				spends(t, w, 5, cost, c.now, 0, false)
			}
			has(t, "behind a spending", w, l)
		}
	}
}

// S1: the generation that is told is the lease's.
func TestSpendGenerations(t *testing.T) {
	for _, gen := range []int{1, 2, 7, 1 << 40, end, math.MaxInt} {
		w := with(t, of(4, 3, 6, 30), of(5, gen, 6, 30), of(6, 9, 6, 30))
		spends(t, w, 5, 1, 10, gen, true)
		spends(t, w, 5, 5, 11, gen, true)
		spends(t, w, 5, 1, 11, 0, false)
		spends(t, w, 6, 2, 11, 9, true)
		spends(t, w, 4, 2, 11, 3, true)
	}
}

// S1: of a key without a lease nothing is spent, whatever other keys have.
func TestSpendOfNone(t *testing.T) {
	w := three(t)
	for _, key := range []int{-5, -4, -2, 0, 4, 6, 65535, 65537, math.MinInt, math.MaxInt} {
		for _, cost := range edges() {
			for _, now := range edges() {
				spends(t, w, key, cost, now, 0, false)
			}
		}
	}
	has(t, "asked in vain", w, theThree()...)
	closes(t, w, 5, 7, 0)
	spends(t, w, 5, 1, 10, 0, false)
	drops(t, w, 5, 2)
	spends(t, w, -3, 1, -1, 0, false)
	has(t, "gone", w)
}

// S1: several spendings of one lease add up, readings in any order, and those that were refused count nothing.
func TestSpendOften(t *testing.T) {
	w := with(t, of(5, 7, 100, 30))
	for i := range 33 {
		spends(t, w, 5, 3, 29-i, 7, true)
		spends(t, w, 5, 101-3*(i+1), 29-i, 0, false)
		spends(t, w, 5, 3, 30+i, 0, false)
		spends(t, w, 5, -3, 29-i, 0, false)
		spends(t, w, 5, 0, 29-i, 0, false)
		left(t, w, 5, 29, 100-3*(i+1))
		has(t, "behind some", w, spent(of(5, 7, 100, 30), 3*(i+1)))
	}
	spends(t, w, 5, 2, 29, 0, false)
	spends(t, w, 5, 1, 29, 7, true)
	spends(t, w, 5, 1, 29, 0, false)
	closes(t, w, 5, 7, 100)
}

// S1: leases of several keys are spent beside one another, each by itself.
func TestSpendBeside(t *testing.T) {
	w := with(t, of(0, 1, 10, 30), of(1, 2, 20, 20), of(-1, 3, 30, 10))
	for i := range 10 {
		spends(t, w, 0, 1, 29, 1, true)
		spends(t, w, 1, 2, 19, 2, true)
		spends(t, w, -1, 3, 9, 3, true)
		spends(t, w, 1, 1, 20, 0, false)
		spends(t, w, -1, 1, 10, 0, false)
		has(t, "beside one another", w,
			spent(of(-1, 3, 30, 10), 3*(i+1)), spent(of(0, 1, 10, 30), i+1), spent(of(1, 2, 20, 20), 2*(i+1)))
	}
	for _, key := range []int{-1, 0, 1} {
		left(t, w, key, 0, 0)
		spends(t, w, key, 1, 0, 0, false)
	}
	puts(t, w, of(0, 4, 1, 30), api.ErrTwice)
	closes(t, w, 0, 1, 10)
	closes(t, w, 1, 2, 20)
	closes(t, w, -1, 3, 30)
}
