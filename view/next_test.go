package view

import (
	"math"
	"testing"
)

// alive is a view of n nodes in which just these, and its own node, are live at 100.
func alive(t *testing.T, n, node int, live ...int) *View {
	t.Helper()
	v := made(t, n, node, 5, 10)
	for _, i := range live {
		v.Hear(i, 100)
	}
	lives(t, v, 100, of(live...)|of(node))
	return v
}

// TestNext: E1, the next live one behind the node, by number, and round behind the last one; the one ahead of it, if only that is live besides; itself, if no other one is.
func TestNext(t *testing.T) {
	for _, x := range []struct {
		n, node int
		live    []int
		want    int
	}{
		{5, 2, []int{0, 1, 3, 4}, 3}, {5, 2, []int{0, 1, 4}, 4}, {5, 2, []int{0, 1}, 0}, {5, 2, []int{1}, 1}, {5, 2, []int{3}, 3}, {5, 2, nil, 2},
		{5, 2, []int{0, 4}, 4}, {5, 2, []int{1, 3}, 3}, {5, 2, []int{1, 4}, 4}, {5, 2, []int{2}, 2},
		{5, 0, []int{4}, 4}, {5, 0, []int{1}, 1}, {5, 0, []int{2, 4}, 2}, {5, 0, nil, 0},
		{5, 4, []int{0}, 0}, {5, 4, []int{3}, 3}, {5, 4, []int{0, 3}, 0}, {5, 4, []int{1, 2}, 1}, {5, 4, nil, 4},
		{1, 0, nil, 0}, {2, 0, nil, 0}, {2, 0, []int{1}, 1}, {2, 1, []int{0}, 0}, {2, 1, nil, 1},
		{64, 0, []int{63}, 63}, {64, 0, nil, 0}, {64, 63, []int{0}, 0}, {64, 63, []int{62}, 62}, {64, 63, nil, 63},
		{64, 31, []int{30, 63}, 63}, {64, 31, []int{0, 30}, 0}, {64, 31, []int{32, 63}, 32}, {64, 62, []int{63}, 63}, {63, 62, []int{61}, 61},
	} {
		v := alive(t, x.n, x.node, x.live...)
		comes(t, v, 100, x.want)
		comes(t, v, 104, x.want)
		comes(t, v, 105, x.node)
	}
}

// TestNextOfAllSets: E1, of each ring of up to six, each node, and each set of the others.
func TestNextOfAllSets(t *testing.T) {
	for n := 1; n <= 6; n++ {
		for node := range n {
			for s := range 1 << n {
				var live []int
				for i := range n {
					if s&(1<<i) != 0 {
						live = append(live, i)
					}
				}
				v := alive(t, n, node, live...)
				comes(t, v, 100, behind(v.Live(100), n, node))
				comes(t, v, 14, (node+1)%n)
				comes(t, v, 105, node)
			}
		}
	}
}

// TestNextBeside: E1, in each ring, the one behind and the one ahead of each node, round its end.
func TestNextBeside(t *testing.T) {
	for n := 2; n <= 64; n++ {
		for node := range n {
			after, ahead := (node+1)%n, (node+n-1)%n
			comes(t, alive(t, n, node, after), 100, after)
			comes(t, alive(t, n, node, ahead), 100, ahead)
			comes(t, alive(t, n, node, ahead, after), 100, after)
			comes(t, alive(t, n, node), 100, node)
		}
	}
}

// TestNextPasses: E1, one that isn't live any more is passed over, and is next again once it is heard anew.
func TestNextPasses(t *testing.T) {
	v := heard(t, 1, 5, 20, 99, 11, 28)
	for _, x := range [][2]int{{0, 2}, {15, 2}, {16, 3}, {32, 3}, {33, 1}, {math.MaxInt, 1}, {24, 3}, {math.MinInt, 2}} {
		comes(t, v, x[0], x[1])
	}
	v.Hear(0, 30)
	for _, x := range [][2]int{{15, 2}, {16, 3}, {32, 3}, {33, 0}, {34, 0}, {35, 1}} {
		comes(t, v, x[0], x[1])
	}
	v.Hear(2, 31)
	for _, x := range [][2]int{{15, 2}, {32, 2}, {34, 2}, {35, 2}, {36, 1}} {
		comes(t, v, x[0], x[1])
	}
}

// TestNextIsLive: E1, at any span and any reading, whoever is next is live, and is another one if one is.
func TestNextIsLive(t *testing.T) {
	x := uint64(61)
	for range 3000 {
		n := 1 + draw(&x, 64)
		v := made(t, n, draw(&x, n), drawWide(&x), drawWide(&x))
		for range n {
			v.Hear(draw(&x, n), drawWide(&x))
		}
		now := drawWide(&x)
		live, next := v.Live(now), v.Next(now)
		if live&of(next) == 0 || (next == v.node) != (live == of(v.node)) {
			t.Errorf("next of %b to %d of %d: %d", live, v.node, n, next)
		}
	}
}
