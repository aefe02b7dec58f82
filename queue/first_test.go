package queue

import (
	"math"
	"slices"
	"testing"

	"annona/api"
)

// Q1, and the sixth of the whole's examples: of class 1 one is first, ahead of one of class 2 that came first.
func TestFirstExample(t *testing.T) {
	q := with(t, 4, of(7, 5, 2), of(8, 5, 1))
	first(t, q, 5, of(8, 5, 1))
	lists(t, q, 5, of(8, 5, 1), of(7, 5, 2))
}

// Q1: that of the least class; of one class that which came first; other keys' items don't count.
func TestFirst(t *testing.T) {
	for _, c := range []struct {
		name string
		l    []Item
		want int
	}{
		{"one", []Item{of(1, 5, 2)}, 0},
		{"the same class", []Item{of(2, 5, 1), of(1, 5, 1)}, 0},
		{"the same class, greater names behind", []Item{of(1, 5, 1), of(2, 5, 1)}, 0},
		{"0 behind 1", []Item{of(1, 5, 1), of(2, 5, 0)}, 1},
		{"0 ahead of 1", []Item{of(1, 5, 0), of(2, 5, 1)}, 0},
		{"1 behind 2", []Item{of(1, 5, 2), of(2, 5, 1)}, 1},
		{"1 ahead of 2", []Item{of(1, 5, 1), of(2, 5, 2)}, 0},
		{"0 behind 2", []Item{of(1, 5, 2), of(2, 5, 0)}, 1},
		{"falling classes", []Item{of(1, 5, 2), of(2, 5, 1), of(3, 5, 0)}, 2},
		{"rising classes", []Item{of(1, 5, 0), of(2, 5, 1), of(3, 5, 2)}, 0},
		{"the first of two of class 0", []Item{of(1, 5, 2), of(9, 5, 0), of(3, 5, 1), of(4, 5, 0)}, 1},
		{"the first of two of class 1", []Item{of(1, 5, 2), of(9, 5, 1), of(3, 5, 1)}, 1},
		{"the first of three of class 2", []Item{of(9, 5, 2), of(1, 5, 2), of(3, 5, 2)}, 0},
		{"another key's of a lesser class ahead", []Item{of(1, 6, 0), of(2, 5, 2)}, 1},
		{"another key's of a lesser class behind", []Item{of(1, 5, 2), of(2, 6, 0)}, 0},
		{"another key's of the same class ahead", []Item{of(1, 4, 1), of(2, 5, 1), of(3, 6, 1)}, 1},
		{"other keys' ones amid", []Item{of(1, -5, 0), of(2, 5, 2), of(3, 6, 0), of(4, 5, 1), of(5, 4, 0)}, 3},
		{"a lesser Until behind", []Item{until(of(1, 5, 1), 90), until(of(2, 5, 1), 0)}, 0},
		{"a lesser cost behind", []Item{costs(of(1, 5, 1), 90), costs(of(2, 5, 1), 1)}, 0},
		{"a greater cost behind", []Item{costs(of(1, 5, 1), 1), costs(of(2, 5, 1), 90)}, 0},
	} {
		q := with(t, 8, c.l...)
		first(t, q, 5, c.l[c.want])
		has(t, c.name, q, c.l...)
	}
}

// Q1: of a key without items there is no first one, whatever other keys have.
func TestFirstOfNone(t *testing.T) {
	q := six(t)
	for _, key := range append(edges(), 4, 6, -5, -6, -8, 65540, 65542, 5<<32, 1<<32+5) {
		noFirst(t, q, key)
		lists(t, q, key)
		sums(t, q, key, 0)
	}
	has(t, "asked in vain", q, theSix()...)
	takes(t, q, theSix()[1])
	noFirst(t, q, -7)
	lists(t, q, -7)
	expires(t, q, 25, theSix()[3], theSix()[4], theSix()[5])
	noFirst(t, q, 65541)
	lists(t, q, 65541)
	first(t, q, 5, theSix()[2])
}

// Q1: keys below 0, and at both ends, have first ones as others.
func TestFirstKeys(t *testing.T) {
	l := edges()
	for range 2 {
		q := made(t, 16)
		var want []Item
		for i, key := range l[2:10] {
			a, b := of(i, key, 1+i%2), of(100+i, key, i%2)
			puts(t, q, a, api.OK)
			puts(t, q, b, api.OK)
			want = append(want, a, b)
		}
		for i, key := range l[2:10] {
			first(t, q, key, want[2*i+1])
			lists(t, q, key, want[2*i+1], want[2*i])
		}
		has(t, "of many keys", q, want...)
		slices.Reverse(l)
	}
}

// Q1: a key's items by classes, and within a class as they came; nothing has changed.
func TestOf(t *testing.T) {
	q := six(t)
	l := theSix()
	lists(t, q, 5, l[2], l[5], l[0], l[3])
	lists(t, q, -7, l[1])
	lists(t, q, 65541, l[4])
	has(t, "listed", q, l...)
	first(t, q, 5, l[2])
	takes(t, q, l[2])
	lists(t, q, 5, l[5], l[0], l[3])
	takes(t, q, l[0])
	lists(t, q, 5, l[5], l[3])
	has(t, "listed", q, l[1], l[3], l[4], l[5])
}

// Q1: of a full queue of one key too, in all orders of its classes that a rule gives.
func TestOfMany(t *testing.T) {
	for n := 0; n <= 16; n++ {
		for rule := range 27 {
			q := made(t, 16)
			var l []Item
			by := make([][]Item, 3)
			for i := range n {
				class := []int{rule % 3, rule / 3 % 3, rule / 9}[i%3]
				x := Item{ID: (i*7)%16 - 5, Key: -3, Cost: 1 + (i*5)%16, Class: class, Until: (i * 11) % 16}
				puts(t, q, x, api.OK)
				l = append(l, x)
				by[class] = append(by[class], x)
			}
			lists(t, q, -3, slices.Concat(by...)...)
			has(t, "listed", q, l...)
		}
	}
}

// Q1: the keys that have items, rising, each once; of an empty queue none.
func TestKeys(t *testing.T) {
	q := six(t)
	l := theSix()
	keys(t, q, -7, 5, 65541)
	takes(t, q, l[1])
	keys(t, q, 5, 65541)
	takes(t, q, l[0])
	takes(t, q, l[2])
	takes(t, q, l[3])
	keys(t, q, 5, 65541)
	takes(t, q, l[5])
	keys(t, q, 65541)
	expires(t, q, 25, l[4])
	keys(t, q)
	puts(t, q, l[0], api.OK)
	keys(t, q, 5)
}

// Q1: keys below 0, and at both ends, in whatever order they came, each of one, two or three items.
func TestKeysRise(t *testing.T) {
	all := edges()
	x := uint64(12)
	for range 300 {
		q := made(t, 16)
		var want []int
		for i := range draw(&x, 17) {
			key := all[draw(&x, len(all))]
			puts(t, q, of(i, key, draw(&x, 3)), api.OK)
			want = append(want, key)
		}
		slices.Sort(want)
		keys(t, q, slices.Compact(want)...)
	}
}

// Q1: the costs of a key's items alone; of none 0.
func TestSum(t *testing.T) {
	q := six(t)
	l := theSix()
	sums(t, q, 5, 15)
	sums(t, q, -7, 9)
	sums(t, q, 65541, 2)
	sums(t, q, 6, 0)
	takes(t, q, l[3])
	sums(t, q, 5, 8)
	expires(t, q, 20, l[1], l[5])
	sums(t, q, 5, 4)
	sums(t, q, -7, 0)
	puts(t, q, costs(of(50, 5, 0), 100), api.OK)
	sums(t, q, 5, 104)
	has(t, "summed", q, l[0], l[2], l[4], costs(of(50, 5, 0), 100))
}

// Q1, chapter 1: a sum is a number, so that it ends at 2^62, and so does each of its costs.
func TestSumRunsOver(t *testing.T) {
	for _, c := range []struct {
		name  string
		costs []int
		want  int
	}{
		{"2^62-1", []int{end - 1}, end - 1},
		{"2^62", []int{end}, end},
		{"2^62+1", []int{end + 1}, end},
		{"the greatest int", []int{math.MaxInt}, end},
		{"1 less than 2^62", []int{end - 2, 1}, end - 1},
		{"just 2^62", []int{end - 1, 1}, end},
		{"just beyond", []int{end - 1, 2}, end},
		{"halves", []int{end / 2, end / 2}, end},
		{"halves less 1", []int{end / 2, end/2 - 1}, end - 1},
		{"2^63, which wraps below 0", []int{end, end}, end},
		{"2^64, which wraps to 0", []int{end, end, end, end}, end},
		{"2^64 and 5, which wraps to 5", []int{end, end, 5, end, end}, end},
		{"two greatest ints, which wrap to -2", []int{math.MaxInt, math.MaxInt}, end},
		{"two greatest ints and 3, which wrap to 1", []int{math.MaxInt, math.MaxInt, 3}, end},
		{"a little, and the greatest int", []int{1, math.MaxInt}, end},
		{"the greatest int, and a little", []int{math.MaxInt, 1}, end},
		{"16 greatest ints", slices.Repeat([]int{math.MaxInt}, 16), end},
		{"16 of a 16th", slices.Repeat([]int{end / 16}, 16), end},
		{"15 of a 16th", slices.Repeat([]int{end / 16}, 15), end / 16 * 15},
		{"16 of 1", slices.Repeat([]int{1}, 16), 16},
	} {
		q := made(t, 16)
		for i, x := range c.costs {
			puts(t, q, costs(of(i, 5, i%3), x), api.OK)
		}
		if got := q.Sum(5); got != c.want {
			t.Errorf("%s: %d, not %d", c.name, got, c.want)
		}
		sums(t, q, 6, 0)
	}
	q := with(t, 4, costs(of(1, 5, 0), 3), costs(of(2, 6, 0), math.MaxInt), costs(of(3, 7, 0), end), costs(of(4, 5, 1), 4))
	sums(t, q, 5, 7)
}
