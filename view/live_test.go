package view

import (
	"math"
	"testing"
)

// TestLive: E1, each node is live ahead of the reading at which a span has passed since it was heard, and isn't at it, nor later; its own always is.
func TestLive(t *testing.T) {
	for node := range 4 {
		v := heard(t, node, 5, hearings()...)
		for now, want := range map[int][]int{
			0: {0, 1, 2, 3}, 11: {0, 1, 2, 3}, 15: {0, 1, 2, 3}, 16: {0, 1, 3}, 17: {0, 1, 3}, 24: {0, 1, 3}, 25: {1, 3}, 26: {1, 3},
			32: {1, 3}, 33: {1}, 39: {1}, 40: {}, 41: {}, 1000: {}, end - 1: {}, end: {}, end + 1: {}, math.MaxInt: {},
			-1: {0, 1, 2, 3}, -end: {0, 1, 2, 3}, math.MinInt: {0, 1, 2, 3},
		} {
			lives(t, v, now, of(want...)|of(node))
		}
	}
}

// TestLiveOwn: E1, its own node is live at every reading, at any span, however long ago it was heard.
func TestLiveOwn(t *testing.T) {
	for _, x := range places() {
		for _, span := range spans() {
			for _, since := range edges() {
				v := made(t, x[0], x[1], span, since)
				for _, now := range edges() {
					if v.Live(now)&of(x[1]) == 0 {
						t.Errorf("node %d of %d, of a span of %d since %d, isn't live at %d", x[1], x[0], span, since, now)
					}
				}
			}
		}
	}
}

// isLiveTill holds that another node is live ahead of a reading, and isn't from it on.
func isLiveTill(t *testing.T, span, since, till int) {
	t.Helper()
	v := heard(t, 1, span, since, since)
	for _, now := range append(edges(), till-2, till-1, till, till+1, till+2, since-1, since, since+1) {
		if number(now) < number(till) {
			lives(t, v, now, of(0, 1))
		} else {
			lives(t, v, now, of(1))
		}
	}
}

// TestLiveTill: E1, at spans that are none, short, long, and beyond what is a number.
func TestLiveTill(t *testing.T) {
	for _, x := range []struct{ span, since, till int }{
		{5, 10, 15}, {1, 10, 11}, {2, 10, 12}, {100, 10, 110}, {1 << 31, 10, 1<<31 + 10}, {5, 1 << 31, 1<<31 + 5},
		// A span of none, and below 0, has passed at once, but not ahead of that.
		{0, 10, 10}, {-1, 10, 10}, {-100, 10, 10}, {-end, 10, 10}, {math.MinInt, 10, 10}, {0, 0, 0}, {-1, 0, 0}, {0, 1, 1},
		// Since a reading below 0 is since 0.
		{5, -1, 5}, {5, -7, 5}, {5, math.MinInt, 5}, {1, -1, 1}, {0, -1, 0}, {0, math.MinInt, 0}, {-9, -9, 0}, {100, -end, 100},
		// Sums that are 2^62, just below it, and above it.
		{5, end - 5, end}, {5, end - 6, end - 1}, {5, end - 4, end}, {5, end - 1, end}, {5, end, end}, {0, end, end}, {0, end - 1, end - 1}, {1, end - 1, end}, {1, end - 2, end - 1},
		{end, 0, end}, {end, 1, end}, {end, 10, end}, {end, end, end}, {end, -1, end}, {end - 1, 0, end - 1}, {end - 1, 1, end}, {end - 10, 10, end}, {end - 11, 10, end - 1},
		{end / 2, end / 2, end}, {end/2 - 1, end / 2, end - 1}, {end/2 + 1, end / 2, end},
		// Above 2^62.
		{end + 1, 0, end}, {end + 1, 10, end}, {math.MaxInt, 0, end}, {math.MaxInt, 10, end}, {math.MaxInt, math.MaxInt, end}, {math.MaxInt, -1, end}, {math.MaxInt, math.MinInt, end},
		{5, end + 1, end}, {5, math.MaxInt, end}, {0, math.MaxInt, end}, {math.MinInt, math.MaxInt, end}, {math.MinInt, math.MinInt, 0},
	} {
		isLiveTill(t, x.span, x.since, x.till)
	}
}

// TestLiveAtEdges: E1, at any span, any reading at which a node was heard, and any reading, it is as chapter 8 says of what has passed.
func TestLiveAtEdges(t *testing.T) {
	for _, span := range append(spans(), edges()...) {
		for _, since := range edges() {
			isLiveTill(t, span, since, passing(since, span))
		}
	}
}

// TestLiveFew: E1, no node from n on is ever live, and each of the ring's is.
func TestLiveFew(t *testing.T) {
	for n := 1; n <= 64; n++ {
		for _, node := range []int{0, n / 2, n - 1} {
			v := made(t, n, node, 5, 10)
			for _, from := range nobodies(n) {
				v.Hear(from, 12)
			}
			for now := 0; now < 15; now++ {
				lives(t, v, now, all(n))
			}
			for now := 15; now < 30; now++ {
				lives(t, v, now, of(node))
			}
		}
	}
}

// TestLiveOne: E1, of each node by itself it is told whether it is live.
func TestLiveOne(t *testing.T) {
	for _, n := range []int{2, 3, 5, 63, 64} {
		for i := range n {
			node := (i + 1) % n
			v := made(t, n, node, 5, 10)
			v.Hear(i, 13)
			lives(t, v, 14, all(n))
			lives(t, v, 15, of(node, i))
			lives(t, v, 17, of(node, i))
			lives(t, v, 18, of(node))
		}
	}
}

// TestLiveAgain: E1, who is live no more is it again once heard anew; a reading that is too old makes none live.
func TestLiveAgain(t *testing.T) {
	v := heard(t, 2, 5, 10, 10, 10)
	for now := 15; now < 90; now += 5 {
		lives(t, v, now, of(2))
		v.Hear(0, now-5)
		lives(t, v, now, of(2))
		v.Hear(0, now-4)
		lives(t, v, now, of(0, 2))
		lives(t, v, now+1, of(2))
		v.Hear(0, now)
		lives(t, v, now, of(0, 2))
		lives(t, v, now+4, of(0, 2))
		lives(t, v, now+5, of(2))
	}
	v.Hear(1, 88)
	lives(t, v, 92, of(1, 2))
}

// TestLiveBack: E1, a reading that is less than one asked of ahead tells what it would have told.
func TestLiveBack(t *testing.T) {
	v := heard(t, 1, 5, hearings()...)
	for _, now := range []int{1000, 15, 16, 15, math.MaxInt, 0, 40, 39, 33, 32, math.MinInt, 25, 24} {
		var want []int
		for i, since := range hearings() {
			if i == 1 || !passed(since, now, 5) {
				want = append(want, i)
			}
		}
		lives(t, v, now, of(want...))
	}
}
