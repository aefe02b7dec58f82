package view

import (
	"math"
	"testing"

	"annona/api"
)

// TestNew: E1, of each ring and each node of it there is a view, at any span and any now, in which all were heard now.
func TestNew(t *testing.T) {
	for _, x := range places() {
		for _, span := range append(spans(), edges()...) {
			for _, now := range edges() {
				has(t, made(t, x[0], x[1], span, now), times(x[0], now)...)
			}
		}
	}
}

// TestNewIsTheNodes: E1, it is that node's view: all are live till the span passes, and then that one alone.
func TestNewIsTheNodes(t *testing.T) {
	for _, x := range places() {
		n, node := x[0], x[1]
		v := made(t, n, node, 5, 100)
		lives(t, v, 100, all(n))
		comes(t, v, 100, (node+1)%n)
		lives(t, v, 104, all(n))
		comes(t, v, 104, (node+1)%n)
		lives(t, v, 105, of(node))
		comes(t, v, 105, node)
	}
}

// wrong holds that there is no view of that.
func wrong(t *testing.T, n, node, span, now int) {
	t.Helper()
	if v, err := New(n, node, span, now); v != nil || err != api.ErrArg {
		t.Errorf("New(%d, %d, %d, %d): %v, %d", n, node, span, now, v, err)
	}
}

// TestNewNoRing: E1, ErrArg, and no view, if there is no ring of n, whichever node, span and now.
func TestNewNoRing(t *testing.T) {
	for _, n := range []int{0, 65, 66, 128, 1 << 32, 1<<32 + 1, end, -1, -2, -64, math.MinInt, math.MinInt + 1, math.MaxInt} {
		for _, node := range append(edges(), n-1, n, n/2) {
			wrong(t, n, node, 5, 100)
			wrong(t, n, node, 0, 0)
			wrong(t, n, node, math.MaxInt, math.MinInt)
		}
	}
}

// TestNewNoNode: E1, ErrArg, and no view, if there is no such node, at any span and any now.
func TestNewNoNode(t *testing.T) {
	for _, n := range []int{1, 2, 3, 5, 63, 64} {
		for _, node := range []int{-1, -2, -n, -64, n, n + 1, 2 * n, 64, 65, 127, 128, 1 << 32, math.MinInt, math.MinInt + 1, math.MaxInt} {
			for _, span := range []int{math.MinInt, 0, 5, math.MaxInt} {
				for _, now := range []int{math.MinInt, -1, 0, 100, end, math.MaxInt} {
					wrong(t, n, node, span, now)
				}
			}
		}
	}
}

// TestNewEach: E1, there is a view of just those nodes that are one of a ring.
func TestNewEach(t *testing.T) {
	for n := -3; n <= 67; n++ {
		for node := -3; node <= 67; node++ {
			if n >= 1 && n <= 64 && node >= 0 && node < n {
				has(t, made(t, n, node, 5, 7), times(n, 7)...)
			} else {
				wrong(t, n, node, 5, 7)
			}
		}
	}
}

// TestTwoShareNothing: E1, who is heard in one view isn't by that in another one, of the same numbers.
func TestTwoShareNothing(t *testing.T) {
	for _, x := range places() {
		n, node := x[0], x[1]
		a, b := made(t, n, node, 5, 10), made(t, n, node, 5, 10)
		if a == b {
			t.Fatal("two are one")
		}
		for i := range n {
			a.Hear(i, 20+i)
			b.Hear(i, 1000)
			has(t, made(t, n, node, 5, 10), times(n, 10)...)
		}
		has(t, b, times(n, 1000)...)
		for i := range n {
			if got := a.Heard()[i]; got != 20+i {
				t.Errorf("node %d of %d: %d", i, n, got)
			}
		}
		lives(t, made(t, n, node, 5, 10), 15, of(node))
		lives(t, a, 15, all(n))
	}
}

// TestTwoOfTwoKinds: E1, each view has its own n, node, span and now.
func TestTwoOfTwoKinds(t *testing.T) {
	a, b := made(t, 3, 0, 5, 10), made(t, 4, 2, 50, 7)
	for range 2 {
		lives(t, a, 20, of(0))
		comes(t, a, 20, 0)
		has(t, a, 10, 10, 10)
		lives(t, b, 20, of(0, 1, 2, 3))
		comes(t, b, 20, 3)
		has(t, b, 7, 7, 7, 7)
		lives(t, b, 57, of(2))
	}
}
