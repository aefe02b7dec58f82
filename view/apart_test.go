package view

import (
	"math"
	"slices"
	"testing"
)

// TestNil: E1, rule 8, on a nil view Hear does nothing, none is live, next is -1, and no readings are told.
func TestNil(t *testing.T) {
	var v *View
	for _, a := range edges() {
		for _, b := range edges() {
			v.Hear(a, b)
		}
		lives(t, v, a, 0)
		comes(t, v, a, -1)
		has(t, v)
	}
}

// everyCall is what all calls tell, in drawn orders, of some views and of a nil one.
func everyCall() []int {
	var out []int
	x := uint64(66)
	for i := range 40 {
		v, err := New(draw(&x, 70)-2, draw(&x, 40)-2, drawWide(&x), drawWide(&x))
		out = append(out, int(err))
		if i == 5 {
			v = nil
		}
		for range 50 {
			v.Hear(draw(&x, 70)-2, drawWide(&x))
			now := drawWide(&x)
			out = append(out, int(v.Live(now)), v.Next(now))
			out = append(out, v.Heard()...)
		}
	}
	return out
}

// P1, P2: every call ends, and what it tells hangs on its arguments and the calls ahead of it alone.
func TestArgumentsAlone(t *testing.T) {
	want := everyCall()
	for range 5 {
		if !slices.Equal(everyCall(), want) {
			t.Fatal("the same calls told something else")
		}
	}
}

// P2: calls of other views, between those of one, turn nothing of what that tells.
func TestBesideOthers(t *testing.T) {
	x := uint64(67)
	v, p := made(t, 5, 3, 9, 4), plainOf(5, 3, 9, 4)
	others := []*View{made(t, 5, 3, 9, 4), made(t, 5, 2, 9, 4), made(t, 64, 3, 0, 0), nil}
	for range 500 {
		from, now := draw(&x, 6), draw(&x, 200)
		v.Hear(from, now)
		p.hear(from, now)
		for _, w := range others {
			w.Hear(draw(&x, 6), drawWide(&x))
			w.Live(drawWide(&x))
			w.Next(drawWide(&x))
			if l := w.Heard(); len(l) > 0 {
				l[0] = math.MaxInt
			}
		}
		stands(t, v, p, draw(&x, 200))
	}
}

// P2: asking, however often and at whatever reading, changes nothing.
func TestAskingChangesNothing(t *testing.T) {
	v, p := heard(t, 0, 5, hearings()...), plainOf(4, 0, 5, 11)
	for i, now := range hearings() {
		p.hear(i, now)
	}
	for _, at := range edges() {
		v.Live(at)
		v.Next(at)
		v.Heard()
		for now := range 60 {
			stands(t, v, p, now)
		}
	}
}

// P1: each call ends at all edges, of each ring, and of what is none's.
func TestAllEnd(t *testing.T) {
	for _, a := range edges() {
		for _, b := range edges() {
			for _, c := range []int{a, 0, 5, math.MaxInt - 7, math.MinInt} {
				v, _ := New(a, b, c, b)
				v.Hear(b, a)
				v.Live(c)
				v.Next(b)
				v.Heard()
				w := made(t, 3, 1, a, b)
				w.Hear(c, b)
				w.Hear(2, c)
				p := plainOf(3, 1, a, b)
				p.hear(c, b)
				p.hear(2, c)
				stands(t, w, p, a)
				stands(t, w, p, c)
			}
		}
	}
}
