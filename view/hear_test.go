package view

import (
	"math"
	"slices"
	"testing"
)

// hearings are a view's four nodes' readings, none like the others.
func hearings() []int {
	return []int{20, 35, 11, 28}
}

// TestHear: E1, a node's reading is the one that it is heard at, also its own node's; the others' stay.
func TestHear(t *testing.T) {
	for node := range 4 {
		for i, was := range hearings() {
			for _, now := range []int{was + 1, was + 2, 36, 1000, 1 << 31, 1 << 32, end - 1, end, end + 1, math.MaxInt} {
				v := heard(t, node, 5, hearings()...)
				v.Hear(i, now)
				want := hearings()
				want[i] = now
				has(t, v, want...)
			}
		}
	}
}

// TestHearNotLater: E1, a lesser reading, and the same one, leave it.
func TestHearNotLater(t *testing.T) {
	for node := range 4 {
		v := heard(t, node, 5, hearings()...)
		for i, was := range hearings() {
			for _, now := range []int{was, was - 1, was - 2, 11, 10, 1, 0, -1, -was, -end, math.MinInt + 1, math.MinInt} {
				if now <= was {
					v.Hear(i, now)
					has(t, v, hearings()...)
				}
			}
		}
	}
}

// TestHearAtEdges: E1, whatever reading was had, at any other one, the greater one of both is had; these are any ints.
func TestHearAtEdges(t *testing.T) {
	for _, was := range edges() {
		for _, now := range edges() {
			for _, x := range [][3]int{{1, 0, 0}, {2, 0, 1}, {2, 1, 1}, {64, 3, 63}, {64, 63, 0}} {
				n, node, from := x[0], x[1], x[2]
				v := made(t, n, node, 5, was)
				v.Hear(from, now)
				want := times(n, was)
				if now > was {
					want[from] = now
				}
				has(t, v, want...)
			}
		}
	}
}

// TestHearOften: E1, one hearing behind the other, of one node: the greatest reading stays.
func TestHearOften(t *testing.T) {
	v := made(t, 2, 0, 5, -3)
	for _, x := range [][2]int{
		{-4, -3}, {-3, -3}, {-2, -2}, {math.MinInt, -2}, {0, 0}, {-1, 0}, {7, 7}, {6, 7}, {7, 7}, {8, 8}, {3, 8},
		{end, end}, {8, end}, {end - 1, end}, {end + 1, end + 1}, {end, end + 1}, {math.MaxInt, math.MaxInt}, {end, math.MaxInt},
	} {
		v.Hear(1, x[0])
		has(t, v, -3, x[1])
	}
}

// TestHearEach: E1, each node of a ring is heard, and no other one with it.
func TestHearEach(t *testing.T) {
	for _, x := range places() {
		n, node := x[0], x[1]
		v := made(t, n, node, 5, 0)
		want := times(n, 0)
		for i := n - 1; i >= 0; i-- {
			want[i] = 100 - i
			v.Hear(i, 100-i)
			has(t, v, want...)
		}
	}
}

// nobodies are ints that are no nodes of a ring of n.
func nobodies(n int) []int {
	l := []int{-1, -2, -n, n, n + 1, 2 * n, 63, 64, 65, 128, 1 << 32, 1<<32 + 1, -(1 << 32), end, -end, math.MinInt, math.MinInt + 1, math.MaxInt - 1, math.MaxInt}
	return slices.DeleteFunc(l, func(i int) bool { return i >= 0 && i < n })
}

// TestHearNobody: E1, a node that there is not leaves all, at any reading.
func TestHearNobody(t *testing.T) {
	for _, x := range places() {
		n, node := x[0], x[1]
		v := made(t, n, node, 5, 10)
		v.Hear(n-1, 12)
		want := times(n, 10)
		want[n-1] = 12
		for _, from := range nobodies(n) {
			for _, now := range edges() {
				v.Hear(from, now)
			}
			v.Hear(from, 14)
			has(t, v, want...)
			lives(t, v, 14, all(n))
			lives(t, v, 16, of(node, n-1))
			lives(t, v, 17, of(node))
		}
	}
}

// TestHearMakesNoSpan: E1, who is heard turns neither the span nor whose view it is.
func TestHearMakesNoSpan(t *testing.T) {
	for node := range 4 {
		v := made(t, 4, node, 5, 10)
		for now := 11; now < 60; now++ {
			for i := range 4 {
				v.Hear((i+now)%4, now)
			}
			lives(t, v, now+4, all(4))
			comes(t, v, now+4, (node+1)%4)
			lives(t, v, now+5, of(node))
			comes(t, v, now+5, node)
		}
	}
}
