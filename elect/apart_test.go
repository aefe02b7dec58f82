package elect

import (
	"math"
	"slices"
	"testing"

	"annona/api"
)

// TestNil: R1, rule 8, on a nil election Stand tells ErrArg and nothing, Take nothing, Raise false, the others 0.
func TestNil(t *testing.T) {
	var e *Election
	for _, gen := range edges() {
		standsNot(t, e, api.ErrArg)
		for _, bits := range wide() {
			takes(t, e, gen, bits, none)
		}
		raises(t, e, gen, false)
		has(t, e, 0, 0, 0)
	}
}

// result is a result as numbers.
func result(r Result) []int {
	l := []int{r.Gen, int(r.Bits), 0, 0}
	if r.Send {
		l[2] = 1
	}
	if r.Won {
		l[3] = 1
	}
	return l
}

// everyCall is what all calls tell, in drawn orders, of some elections and of a nil one.
func everyCall() []int {
	var out []int
	x := uint64(66)
	for i := range 60 {
		e, err := New(draw(&x, 70)-2, draw(&x, 30)-2, drawWide(&x), drawWide(&x))
		if err != api.OK {
			e, _ = New(5, draw(&x, 5), draw(&x, 9), draw(&x, 9))
		}
		out = append(out, int(err))
		if i == 5 {
			e = nil
		}
		for range 60 {
			a := drawAct(&x, 5, e.Promised())
			switch a.kind {
			case 0:
				r, err := e.Stand()
				out = append(append(out, int(err)), result(r)...)
			case 1:
				out = append(out, result(e.Take(a.gen, a.bits))...)
			case 2:
				if e.Raise(a.gen) {
					out = append(out, 1)
				}
			}
			out = append(out, e.Promised(), e.Round(), e.Standing())
		}
	}
	return out
}

// P1, P2: every call ends, and what it tells hangs on its arguments and the calls ahead of it alone.
func TestArgumentsAlone(t *testing.T) {
	want := everyCall()
	for range 5 {
		if !slices.Equal(everyCall(), want) {
			t.Fatal("the same calls told something else")
		}
	}
}

// P2: calls of other elections, between those of one, turn nothing of what that tells.
func TestBesideOthers(t *testing.T) {
	x := uint64(67)
	e, p := made(t, 5, 3, 9, 4), plainOf(5, 3, 9, 4)
	others := []*Election{made(t, 5, 3, 9, 4), made(t, 5, 2, 9, 4), made(t, 64, 3, 0, 0), nil}
	for range 2000 {
		a := drawAct(&x, 5, min(p.promised, 1<<30))
		if a.gen > 1<<31 {
			a.gen = 0
		}
		done(t, e, p, a)
		for _, o := range others {
			o.Stand()
			o.Take(drawWide(&x), drawBits(&x))
			o.Take(o.Standing(), math.MaxUint64)
			o.Raise(drawWide(&x))
		}
		has(t, e, p.promised, p.round, p.standing())
	}
}

// P1: each call ends at all edges, of each ring, and of what is none's.
func TestAllEnd(t *testing.T) {
	for _, a := range edges() {
		for _, b := range edges() {
			for _, c := range edges() {
				e, _ := New(a, b, c, b)
				e.Stand()
				e.Take(c, uint64(a))
				e.Take(e.Standing(), uint64(b))
				e.Raise(b)
				f := made(t, 3, 1, 7, 2)
				p := plainOf(3, 1, 7, 2)
				for _, l := range []act{{1, a, uint64(b)}, {0, 0, 0}, {1, b, uint64(c)}, {2, c, 0}, {1, a, uint64(c)}, {0, 0, 0}} {
					done(t, f, p, l)
				}
			}
		}
	}
}
