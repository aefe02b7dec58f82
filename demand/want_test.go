package demand

import (
	"math"
	"testing"
)

// V1: the estimate and what waits, but not more than most.
func TestWant(t *testing.T) {
	for _, x := range []struct{ estimate, queued, most, want int }{
		// Most above the sum, at it, and below it.
		{12, 5, 100, 17}, {12, 5, 18, 17}, {12, 5, 17, 17}, {12, 5, 16, 16}, {12, 5, 13, 13}, {12, 5, 12, 12},
		{12, 5, 5, 5}, {12, 5, 4, 4}, {12, 5, 1, 1}, {12, 5, 0, 0}, {12, 5, math.MaxInt, 17}, {12, 5, end, 17},
		// Nothing waits.
		{12, 0, 100, 12}, {12, 0, 12, 12}, {12, 0, 11, 11}, {12, 0, 0, 0},
		{12, -1, 100, 12}, {12, -5, 100, 12}, {12, -12, 12, 12}, {12, -end, 11, 11}, {12, math.MinInt, 100, 12},
		// Nothing is the most.
		{12, 5, -1, 0}, {12, 5, -17, 0}, {12, 5, -end, 0}, {12, 5, math.MinInt, 0},
		{12, -5, -1, 0}, {12, math.MinInt, math.MinInt, 0}, {12, math.MaxInt, math.MinInt, 0},
		// So much waits.
		{12, end - 13, end, end - 1}, {12, end - 12, end, end}, {12, end - 11, end, end}, {12, end - 1, end, end},
		{12, end, end, end}, {12, end + 1, end, end}, {12, math.MaxInt, end, end}, {12, math.MaxInt, math.MaxInt, end},
		{12, end, end - 1, end - 1}, {12, math.MaxInt, 100, 100}, {12, math.MaxInt, 0, 0}, {12, end, math.MaxInt, end},
		{12, end - 13, end + 1, end - 1}, {12, end - 13, end - 2, end - 2},
		// So much is the estimate.
		{end, 0, end, end}, {end, 1, end, end}, {end, end, end, end}, {end, end, math.MaxInt, end},
		{end, math.MaxInt, math.MaxInt, end}, {end, math.MinInt, end + 1, end}, {end, 5, 7, 7}, {end, 0, end - 1, end - 1},
		{end - 1, 0, end, end - 1}, {end - 1, 1, end, end}, {end - 1, 2, end, end}, {end - 1, 2, end - 1, end - 1},
		{end / 2, end / 2, end, end}, {end / 2, end/2 - 1, end, end - 1}, {end / 2, end/2 + 1, end, end},
		// A key without an estimate.
		{0, 5, 100, 5}, {0, 5, 5, 5}, {0, 5, 4, 4}, {0, 5, 0, 0}, {0, 5, -1, 0}, {0, 0, 100, 0}, {0, 0, 0, 0},
		{0, -1, 100, 0}, {0, math.MinInt, math.MaxInt, 0}, {0, end, end, end}, {0, end + 1, end + 1, end},
		{0, end - 1, end + 1, end - 1}, {0, math.MaxInt, math.MaxInt, end}, {0, math.MaxInt, 3, 3},
		{0, math.MaxInt, math.MinInt, 0}, {0, math.MinInt, math.MinInt, 0},
	} {
		for _, key := range manyKeys() {
			d := with(t, note{key, x.estimate})
			wants(t, d, key, x.queued, x.most, x.want)
			estimates(t, d, key, x.estimate)
		}
	}
}

// V1: of several keys each one's own estimate counts; of a key that was never noted none does.
func TestWantOfSeveral(t *testing.T) {
	d := four(t)
	wants(t, d, -7, 5, 100, 14)
	wants(t, d, 0, 5, 100, 6)
	wants(t, d, 5, 5, 100, 17)
	wants(t, d, 65541, 5, 100, 45)
	wants(t, d, 65541, 70, 100, 100)
	wants(t, d, 1, 5, 100, 5)
	wants(t, d, -5, 5, 100, 5)
	isFour(t, "asked", d)
}

// V1: what is wanted is of the estimate that there is then.
func TestWantFollows(t *testing.T) {
	d := with(t)
	wants(t, d, 5, 3, 100, 3)
	notes(t, d, 5, 9, 9)
	wants(t, d, 5, 3, 100, 12)
	notes(t, d, 5, 0, 4)
	wants(t, d, 5, 3, 100, 7)
	notes(t, d, 5, 0, 2)
	notes(t, d, 5, 0, 1)
	wants(t, d, 5, 3, 100, 4)
	notes(t, d, 5, 0, 0)
	wants(t, d, 5, 3, 100, 3)
	notes(t, d, 5, 200, 200)
	wants(t, d, 5, 3, 100, 100)
	wants(t, d, 5, 3, 1000, 203)
}

// V1: at all edges, beside the plain one; asking changes nothing.
func TestWantAtAllEdges(t *testing.T) {
	for _, estimate := range edges() {
		d, p := with(t, note{5, estimate}, note{6, 77}), &plain{}
		p.note(5, estimate)
		p.note(6, 77)
		for _, queued := range edges() {
			for _, most := range edges() {
				wants(t, d, 5, queued, most, p.want(5, queued, most))
				wants(t, d, 4, queued, most, p.want(4, queued, most))
			}
		}
		stands(t, "asked", d, p)
	}
}

// V1: a nil one wants as one without estimates: what waits, as a number, but not more than most, as a number.
func TestNilWants(t *testing.T) {
	var d *Demand
	for _, x := range [][3]int{
		{5, 100, 5}, {5, 5, 5}, {5, 4, 4}, {5, 0, 0}, {5, -1, 0}, {0, 100, 0}, {-5, 100, 0}, {math.MinInt, end, 0},
		{end, end, end}, {end + 1, math.MaxInt, end}, {math.MaxInt, math.MaxInt, end}, {math.MaxInt, 7, 7},
		{end - 1, end, end - 1}, {end, end - 1, end - 1}, {math.MaxInt, math.MinInt, 0},
	} {
		for _, key := range manyKeys() {
			wants(t, d, key, x[0], x[1], x[2])
		}
	}
	for _, queued := range edges() {
		for _, most := range edges() {
			p := &plain{}
			wants(t, d, 5, queued, most, p.want(5, queued, most))
			wants(t, with(t), 5, queued, most, p.want(5, queued, most))
		}
	}
}
