package view

import (
	"math"
	"testing"
)

// TestHeard: E1, n readings, by nodes, behind New, and behind each Hear.
func TestHeard(t *testing.T) {
	for _, x := range places() {
		n, node := x[0], x[1]
		v := made(t, n, node, 5, 10)
		want := times(n, 10)
		has(t, v, want...)
		r := uint64(62)
		for range 200 {
			from, now := draw(&r, n), draw(&r, 100)
			v.Hear(from, now)
			want[from] = max(want[from], now)
			has(t, v, want...)
		}
	}
}

// TestHeardWritten: rule 4, what is written into a list that was told, or put behind it, turns nothing of what is told later.
func TestHeardWritten(t *testing.T) {
	for node := range 4 {
		v := heard(t, node, 5, hearings()...)
		l := v.Heard()
		_ = append(l, 77)
		for i := range l[:cap(l)] {
			l[:cap(l)][i] = 1000 + i
		}
		_ = append(l[:1], 78, 79)
		has(t, v, hearings()...)
		lives(t, v, 33, of(1, node))
		v.Hear(0, 21)
		has(t, v, 21, 35, 11, 28)
	}
}

// TestHeardStays: rule 4, later calls don't turn a list that was told, nor does another list.
func TestHeardStays(t *testing.T) {
	v := made(t, 3, 1, 5, 0)
	var told [][]int
	for now := range 50 {
		v.Hear(now%3, now)
		v.Hear(1, math.MinInt)
		told = append(told, v.Heard(), v.Heard())
		told[2*now+1][0] = -9
		told[2*now+1][2] = math.MaxInt
		lives(t, v, now, of(0, 1, 2))
	}
	for now := range 50 {
		w := made(t, 3, 1, 5, 0)
		for k := range now + 1 {
			w.Hear(k%3, k)
		}
		has(t, w, told[2*now]...)
	}
}
