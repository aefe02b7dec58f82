package lease

import (
	"math"
	"testing"

	"annona/api"
)

// S1: of that generation what was spent is told, 0 too; of another one -1; the lease is gone all the same.
func TestClose(t *testing.T) {
	for _, c := range []struct{ spent, gen, want int }{
		{0, 7, 0},
		{1, 7, 1},
		{5, 7, 5},
		{6, 7, 6},
		{0, 6, -1},
		{0, 8, -1},
		{5, 6, -1},
		{5, 8, -1},
		{6, 1, -1},
		{6, 0, -1},
		{6, -1, -1},
		{6, -7, -1},
		{5, 5, -1},
		{1, math.MinInt, -1},
		{1, math.MaxInt, -1},
		{0, 0, -1},
	} {
		for _, until := range []int{1, 30, math.MaxInt} {
			w := with(t, of(4, 7, 9, 30), of(5, 7, 6, until), of(6, 7, 9, 30))
			spends(t, w, 4, 2, 10, 7, true)
			spends(t, w, 6, 3, 10, 7, true)
			if c.spent > 0 {
				spends(t, w, 5, c.spent, until-1, 7, true)
			}
			closes(t, w, 5, c.gen, c.want)
			has(t, "the others", w, spent(of(4, 7, 9, 30), 2), spent(of(6, 7, 9, 30), 3))
			closes(t, w, 5, c.gen, -1)
			closes(t, w, 5, 7, -1)
			left(t, w, 5, 0, 0)
			spends(t, w, 5, 1, 0, 0, false)
			puts(t, w, of(5, 1, 1, 1), api.OK)
		}
	}
}

// S1: a lease of an Until of 0 is closed as any other one.
func TestCloseUntil0(t *testing.T) {
	w := with(t, of(5, 7, 6, 0), of(6, 7, 6, 0))
	spends(t, w, 5, 2, -1, 7, true)
	closes(t, w, 5, 7, 2)
	closes(t, w, 6, 7, 0)
	has(t, "closed", w)
}

// S1: without a lease of that key -1, whatever other keys have, and nothing is changed.
func TestCloseNone(t *testing.T) {
	w := three(t)
	for _, key := range []int{-5, -4, -2, 0, 4, 6, 7, 2, 65535, 65537, math.MinInt, math.MaxInt} {
		for _, gen := range append(edges(), 4, 7) {
			closes(t, w, key, gen, -1)
		}
	}
	has(t, "asked in vain", w, theThree()...)
	closes(t, w, -3, 4, 5)
	closes(t, w, -3, 4, -1)
	has(t, "one closed", w, theThree()[1:]...)
}

// S1: leases of keys at both ends, and of great generations, close too.
func TestCloseEnds(t *testing.T) {
	for _, key := range edges() {
		for _, gen := range []int{1, 2, end, math.MaxInt - 1, math.MaxInt} {
			w := with(t, of(key, gen, math.MaxInt, 9))
			spends(t, w, key, math.MaxInt, 8, gen, true)
			closes(t, w, key, gen, math.MaxInt)
			puts(t, w, of(key, gen, 3, 9), api.OK)
			closes(t, w, key, gen-1, -1)
			closes(t, w, key, gen, -1)
			has(t, "closed", w)
		}
	}
}

// S1: leases of generations below gen are gone, and how many; those at it and above stay as they were.
func TestDrop(t *testing.T) {
	l := []Lease{of(-3, 4, 9, 20), of(1, 5, 2, 9), of(5, 7, 6, 30), of(8, 4, 5, 0), of(9, 1, 3, 40), of(65536, math.MaxInt, 1, 0)}
	for _, c := range []struct {
		gen, want int
		stay      []int
	}{
		{math.MinInt, 0, []int{0, 1, 2, 3, 4, 5}},
		{-7, 0, []int{0, 1, 2, 3, 4, 5}},
		{-1, 0, []int{0, 1, 2, 3, 4, 5}},
		{0, 0, []int{0, 1, 2, 3, 4, 5}},
		{1, 0, []int{0, 1, 2, 3, 4, 5}},
		{2, 1, []int{0, 1, 2, 3, 5}},
		{3, 1, []int{0, 1, 2, 3, 5}},
		{4, 1, []int{0, 1, 2, 3, 5}},
		{5, 3, []int{1, 2, 5}},
		{6, 4, []int{2, 5}},
		{7, 4, []int{2, 5}},
		{8, 5, []int{5}},
		{end, 5, []int{5}},
		{math.MaxInt - 1, 5, []int{5}},
		{math.MaxInt, 5, []int{5}},
	} {
		w := with(t, l...)
		spends(t, w, -3, 5, 19, 4, true)
		spends(t, w, 5, 6, 29, 7, true)
		spends(t, w, 9, 1, 39, 1, true)
		was := []Lease{spent(l[0], 5), l[1], spent(l[2], 6), l[3], spent(l[4], 1), l[5]}
		drops(t, w, c.gen, c.want)
		var want []Lease
		for _, i := range c.stay {
			want = append(want, was[i])
		}
		has(t, "what stays", w, want...)
		drops(t, w, c.gen, 0)
		has(t, "what stays, dropped again", w, want...)
		if c.gen > 4 {
			left(t, w, -3, 10, 0)
			closes(t, w, -3, 4, -1)
			puts(t, w, of(-3, 1, 1, 1), api.OK)
		}
	}
}

// S1: all of them, and none at all, go by Drop.
func TestDropAll(t *testing.T) {
	for _, n := range []int{0, 1, 2, 16, 200} {
		w := New()
		for i := range n {
			puts(t, w, of(i*7-20, 1+i%3, 4, 30), api.OK)
		}
		drops(t, w, 1, 0)
		drops(t, w, 4, n)
		has(t, "none", w)
		drops(t, w, math.MaxInt, 0)
	}
}
