package view

import (
	"math"
	"slices"
	"testing"

	"annona/api"
	"annona/ring"
)

// end is how great a number may be, by the document's words.
const end = 1 << 62

// made is a view that may be.
func made(t *testing.T, n, node, span, now int) *View {
	t.Helper()
	v, err := New(n, node, span, now)
	if v == nil || err != api.OK {
		t.Fatalf("New(%d, %d, %d, %d): %v, %d", n, node, span, now, v, err)
	}
	return v
}

// heard is a view of as many nodes as there are readings, each heard at its own one.
func heard(t *testing.T, node, span int, readings ...int) *View {
	t.Helper()
	v := made(t, len(readings), node, span, slices.Min(readings))
	for i, now := range readings {
		v.Hear(i, now)
	}
	has(t, v, readings...)
	return v
}

// of is a set of nodes.
func of(nodes ...int) ring.Set {
	var s ring.Set
	for _, i := range nodes {
		s |= 1 << i
	}
	return s
}

// all are the nodes of a ring of n.
func all(n int) ring.Set {
	var s ring.Set
	for i := 0; i < n; i++ {
		s |= 1 << i
	}
	return s
}

// lives holds which nodes are live; asked twice, since asking must change nothing.
func lives(t *testing.T, v *View, now int, want ring.Set) {
	t.Helper()
	for range 2 {
		if got := v.Live(now); got != want {
			t.Errorf("Live(%d): %b, not %b", now, got, want)
		}
	}
}

// comes holds who is next; asked twice, since asking must change nothing.
func comes(t *testing.T, v *View, now, want int) {
	t.Helper()
	for range 2 {
		if got := v.Next(now); got != want {
			t.Errorf("Next(%d): %d, not %d", now, got, want)
		}
	}
}

// has holds all readings; asked twice, since asking must change nothing.
func has(t *testing.T, v *View, want ...int) {
	t.Helper()
	for range 2 {
		if got := v.Heard(); !slices.Equal(got, want) {
			t.Errorf("Heard: %v, not %v", got, want)
		}
	}
}

// edges are ints at and beside the bounds that the chapters name, and at the ends.
func edges() []int {
	return []int{
		math.MinInt, math.MinInt + 1, -end - 1, -end, -65, -64, -2, -1, 0, 1, 2, 3, 30, 31, 62, 63, 64, 65,
		1<<31 - 1, 1 << 31, end/2 - 1, end / 2, end - 2, end - 1, end, end + 1, math.MaxInt - 1, math.MaxInt,
	}
}

// spans are spans of all kinds: none, below none, short, and such as run over.
func spans() []int {
	return []int{math.MinInt, -end, -5, -1, 0, 1, 2, 5, 64, 1 << 31, end / 2, end - 1, end, end + 1, math.MaxInt}
}

// places are a first and a last node, and one between if there is one, of each size of a ring that the issue names, and of some others.
func places() [][2]int {
	l := [][2]int{}
	for _, n := range []int{1, 2, 3, 5, 63, 64} {
		for _, node := range []int{0, n / 2, n - 1} {
			l = append(l, [2]int{n, node})
		}
	}
	return l
}

// times are n times a reading.
func times(n, reading int) []int {
	return slices.Repeat([]int{reading}, n)
}

// draw is a fixed rule's next, below n: the same ones each time.
func draw(x *uint64, n int) int {
	*x = *x*6364136223846793005 + 1442695040888963407
	return int(*x >> 33 % uint64(n))
}

// drawWide is a number of any length, now and then an edge.
func drawWide(x *uint64) int {
	l := edges()
	if draw(x, 4) == 0 {
		return l[draw(x, len(l))]
	}
	wide := draw(x, 1<<31)<<31 | draw(x, 1<<31)
	return wide >> draw(x, 62)
}

// number is an int as a number, by the words of chapter 1.
func number(x int) uint64 {
	switch {
	case x < 0:
		return 0
	case x > end:
		return end
	}
	return uint64(x)
}

// passing is the reading, as a number, at which a span has passed since another one, by the words of chapter 8.
func passing(since, span int) int {
	// Of 64 bits without a sign, since the sum of two numbers may be 2^63.
	return int(min(number(since)+number(span), end))
}

// passed is chapter 8's word.
func passed(since, now, span int) bool {
	return number(now) >= number(passing(since, span))
}
