package view

import (
	"testing"

	"annona/ring"
)

// isLive tells whether a node is in a set.
func isLive(s ring.Set, i int) bool {
	return s>>i&1 == 1
}

// between are readings from lo on, and below hi: all of few, else those by both ends, and drawn ones.
func between(x *uint64, lo, hi int) []int {
	var l []int
	if hi-lo <= 40 {
		for now := lo; now < hi; now++ {
			l = append(l, now)
		}
		return l
	}
	for i := range 5 {
		l = append(l, lo+i, hi-1-i, lo+int(uint64(drawWide(x))%uint64(hi-lo)))
	}
	return l
}

// drawSpan is a span: none, short or long.
func drawSpan(x *uint64) int {
	switch draw(x, 4) {
	case 0:
		return draw(x, 3)
	case 1:
		return 1<<31 + draw(x, 1000)
	}
	return 1 + draw(x, 30)
}

// TestSilentIsGone: P16.2, over drawn hearings, a node that isn't heard any more isn't live from the span's passing on, also a span of none, whoever else is heard.
func TestSilentIsGone(t *testing.T) {
	x := uint64(63)
	gone := 0
	for range 1500 {
		n := 2 + draw(&x, 6)
		node, span, now := draw(&x, n), drawSpan(&x), draw(&x, 100)
		silent := (node + 1 + draw(&x, n-1)) % n
		v := made(t, n, node, span, now)
		last := now
		for range draw(&x, 20) {
			now += draw(&x, 1+span/3)
			from := draw(&x, n)
			v.Hear(from, now)
			if from == silent {
				last = now
			}
		}
		for _, at := range between(&x, last+span, max(now, last+span)+2*span+30) {
			v.Hear((silent+1+draw(&x, n-1))%n, at)
			if isLive(v.Live(at), silent) || v.Next(at) == silent {
				t.Fatalf("%d, not heard since %d, for a span of %d, is live at %d", silent, last, span, at)
			}
			gone++
		}
	}
	if gone < 10000 {
		t.Errorf("only %d readings were tried", gone)
	}
}

// TestHeardOftenIsLive: P16.2, a node that is heard again ahead of the span's passing, each time, is live at every reading between, whoever else is gone, and whatever comes late.
func TestHeardOftenIsLive(t *testing.T) {
	x := uint64(64)
	live := 0
	for range 800 {
		n := 2 + draw(&x, 6)
		node, span, now := draw(&x, n), 1+drawSpan(&x), draw(&x, 100)
		often := (node + 1 + draw(&x, n-1)) % n
		v := made(t, n, node, span, now)
		for range 30 {
			till := now + draw(&x, span)
			for _, at := range append(between(&x, now, till), till) {
				if !isLive(v.Live(at), often) {
					t.Fatalf("%d, heard at %d, for a span of %d, isn't live at %d", often, now, span, at)
				}
				live++
			}
			now = till
			v.Hear(often, now)
			v.Hear(often, draw(&x, now+1))
			v.Hear(draw(&x, n), draw(&x, now+1))
		}
	}
	if live < 50000 {
		t.Errorf("only %d readings were tried", live)
	}
}

// TestHeardTooSeldom: P16.2, one that is heard each time just as the span passes isn't live then, and is live behind that.
func TestHeardTooSeldom(t *testing.T) {
	for _, span := range []int{1, 2, 5, 1 << 31} {
		v := made(t, 2, 0, span, 10)
		for k := range 50 {
			at := 10 + (k+1)*span
			lives(t, v, at-1, of(0, 1))
			lives(t, v, at, of(0))
			comes(t, v, at, 0)
			v.Hear(1, at)
			lives(t, v, at, of(0, 1))
			comes(t, v, at, 1)
		}
	}
}

// TestSpanOfNone: P16.2, for a span of none nobody else is live from when it was heard on, however often it is heard.
func TestSpanOfNone(t *testing.T) {
	for _, span := range []int{0, -1, -end} {
		v := made(t, 3, 2, span, 10)
		for now := 10; now < 100; now++ {
			for i := range 3 {
				v.Hear(i, now)
			}
			lives(t, v, now, of(2))
			comes(t, v, now, 2)
			lives(t, v, now-1, of(0, 1, 2))
		}
	}
}
