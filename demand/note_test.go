package demand

import (
	"math"
	"testing"
)

// V1: a new one has no estimate above 0, of any key.
func TestNew(t *testing.T) {
	has(t, "new", with(t))
}

// V1: what is noted of one is not noted of another one.
func TestTwoShareNothing(t *testing.T) {
	a, b := New(), New()
	if a == b {
		t.Fatal("two are one")
	}
	notes(t, a, 5, 9, 9)
	has(t, "another one", b)
	notes(t, b, 5, 3, 3)
	notes(t, b, 6, 4, 4)
	has(t, "the first one", a, note{5, 9})
	notes(t, a, 5, 0, 4)
	notes(t, a, 5, 0, 2)
	notes(t, a, 5, 0, 1)
	notes(t, a, 5, 0, 0)
	has(t, "the first one, faded", a)
	has(t, "another one, as it was", b, note{5, 3}, note{6, 4})
	has(t, "one made later", New())
}

// V1: the first note of a key makes its estimate what was spent, as a number.
func TestFirstNote(t *testing.T) {
	for _, x := range [][2]int{
		{0, 0}, {1, 1}, {2, 2}, {3, 3}, {100, 100}, {end - 1, end - 1},
		{end, end}, {end + 1, end}, {math.MaxInt, end},
		{-1, 0}, {-2, 0}, {-end, 0}, {math.MinInt, 0},
	} {
		for _, key := range manyKeys() {
			notes(t, with(t), key, x[0], x[1])
		}
	}
}

// V1: the estimate is the greater one of what was spent, and half of what it was, rounded down.
func TestNote(t *testing.T) {
	for _, x := range []struct{ was, spent, want int }{
		// Above half the estimate, and above the estimate.
		{20, 11, 11}, {20, 19, 19}, {20, 20, 20}, {20, 21, 21}, {20, 500, 500},
		// At it, one below it, and far below.
		{20, 10, 10}, {20, 9, 10}, {20, 1, 10}, {20, 0, 10},
		// Of an odd one.
		{21, 11, 11}, {21, 10, 10}, {21, 9, 10}, {21, 0, 10}, {7, 0, 3}, {3, 0, 1}, {3, 1, 1}, {3, 2, 2},
		// Of 1, and of 2.
		{1, 0, 0}, {1, 1, 1}, {1, 2, 2}, {1, -1, 0}, {2, 0, 1}, {2, 1, 1}, {2, 2, 2},
		// Spent below 0, which is 0.
		{20, -1, 10}, {20, -100, 10}, {21, math.MinInt, 10}, {20, -end, 10},
		// Spent at the greatest number, and above it.
		{20, end - 1, end - 1}, {20, end, end}, {20, end + 1, end}, {20, math.MaxInt, end},
		// Of the greatest number, and near it.
		{end, 0, end / 2}, {end, end / 2, end / 2}, {end, end/2 + 1, end/2 + 1}, {end, end/2 - 1, end / 2},
		{end, end, end}, {end, end - 1, end - 1}, {end, math.MaxInt, end}, {end, math.MinInt, end / 2},
		{end - 1, 0, end/2 - 1}, {end - 1, end/2 - 1, end/2 - 1}, {end - 1, end / 2, end / 2},
		{end + 1, 0, end / 2}, {math.MaxInt, 0, end / 2}, {math.MaxInt, end / 2, end / 2},
		// Of none.
		{0, 0, 0}, {0, 1, 1}, {0, 7, 7}, {-5, 7, 7}, {-5, 0, 0}, {math.MinInt, 0, 0}, {math.MinInt, -1, 0},
	} {
		for _, key := range manyKeys() {
			notes(t, with(t, note{key, x.was}), key, x.spent, x.want)
		}
	}
}

// V1: one note behind the other, of one key.
func TestManyNotes(t *testing.T) {
	d := with(t)
	for _, x := range [][2]int{
		{100, 100}, {10, 50}, {25, 25}, {13, 13}, {5, 6}, {0, 3}, {0, 1}, {0, 0}, {0, 0},
		{1, 1}, {1, 1}, {3, 3}, {-3, 1}, {-3, 0}, {8, 8}, {9, 9}, {4, 4}, {4, 4}, {2, 2}, {0, 1}, {5, 5},
	} {
		notes(t, d, 5, x[0], x[1])
	}
}

// V1: other keys' estimates stay as they were, also those of keys near by.
func TestOtherKeysStay(t *testing.T) {
	l := manyKeys()
	for i, key := range l {
		d := with(t)
		for k, other := range l {
			d.Note(other, 100+k)
		}
		for _, x := range [][2]int{{1, (100 + i) / 2}, {0, (100 + i) / 4}, {500, 500}, {math.MaxInt, end}, {0, end / 2}} {
			notes(t, d, key, x[0], x[1])
			for k, other := range l {
				if k != i {
					estimates(t, d, other, 100+k)
				}
			}
		}
	}
}

// V1: Of is a key's estimate, and 0 of a key of which nothing was noted, whatever was noted of others.
func TestOf(t *testing.T) {
	isFour(t, "of four", four(t))
	for _, key := range []int{-6, 1, 4, 6, 65536, 5 + 1<<32, math.MinInt, math.MaxInt} {
		d := four(t)
		estimates(t, d, key, 0)
		isFour(t, "asked", d)
	}
}

// V1: asking of a key that was never noted makes nothing of it.
func TestAskingChangesNothing(t *testing.T) {
	d := four(t)
	for _, key := range manyKeys() {
		d.Of(key)
		d.Want(key, 50, 90)
		d.Want(key, math.MaxInt, math.MaxInt)
		d.Keys()
	}
	isFour(t, "asked", d)
	notes(t, d, 5, 0, 6)
	notes(t, d, 65541, 0, 20)
	notes(t, d, 9, 0, 0)
	has(t, "noted", d, note{-7, 9}, note{0, 1}, note{5, 6}, note{65541, 20})
}

// Rule 8: a nil one tells 0, whatever is noted.
func TestNilOne(t *testing.T) {
	var d *Demand
	for _, key := range edges() {
		for _, spent := range edges() {
			notes(t, d, key, spent, 0)
		}
	}
	has(t, "nil", d)
}
