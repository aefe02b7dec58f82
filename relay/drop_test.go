package relay

import (
	"math"
	"testing"

	"annona/api"
	"annona/token"
)

// TestDrop: Y1, for a newer place it is held no more.
func TestDrop(t *testing.T) {
	for _, p := range []token.Place{
		{Gen: 7, Hop: 13}, {Gen: 8, Hop: 12}, {Gen: 8, Hop: 11}, {Gen: 8, Hop: 0}, {Gen: 8, Hop: 13}, {Gen: 8, Hop: -1}, {Gen: 70, Hop: 1},
		{Gen: 7, Hop: most}, {Gen: most, Hop: most}, {Gen: most + 1}, {Gen: 7, Hop: most + 1}, {Gen: 7, Hop: 1 << 32},
		{Gen: 7, Hop: math.MaxInt}, {Gen: 8, Hop: math.MinInt}, {Gen: math.MaxInt, Hop: math.MinInt}, {Gen: math.MaxInt, Hop: math.MaxInt},
	} {
		r := holding(t, thePass())
		drops(t, r, p, true)
		tellsNone(t, r)
		sent(t, r, 0)
		drops(t, r, p, false)
	}
}

// TestDropNot: Y1, for the same place, and for one that is no newer, it is held on.
func TestDropNot(t *testing.T) {
	r := holding(t, thePass())
	for _, p := range []token.Place{
		{Gen: 7, Hop: 12}, {Gen: 7, Hop: 11}, {Gen: 6, Hop: 12}, {Gen: 6, Hop: 13}, {Gen: 6, Hop: 11}, {Gen: 0, Hop: 13}, {}, {Gen: 1, Hop: 1 << 32},
		{Gen: 7, Hop: 0}, {Gen: 7, Hop: -1}, {Gen: -7, Hop: 13}, {Gen: 6, Hop: most}, {Gen: -1, Hop: most + 1},
		{Gen: 7, Hop: math.MinInt}, {Gen: 6, Hop: math.MaxInt}, {Gen: math.MinInt, Hop: math.MaxInt}, {Gen: math.MinInt, Hop: math.MinInt},
	} {
		was := r.Sent()
		drops(t, r, p, false)
		sent(t, r, was)
		tells(t, r, thePass())
		holds(t, r, placed(8, 1), api.ErrTwice)
	}
	drops(t, r, place(7, 13), true)
}

// TestDropBeside: Y1, at each bound of a token's place, by each place beside it.
func TestDropBeside(t *testing.T) {
	for _, gen := range []int{1, 2, most - 1, most} {
		for _, hop := range []int{0, 1, most - 1, most} {
			for a := -2; a <= 2; a++ {
				for b := -2; b <= 2; b++ {
					newer := a > 0 || a == 0 && b > 0
					r := holding(t, placed(gen, hop))
					drops(t, r, place(gen+a, hop+b), newer)
					if newer {
						tellsNone(t, r)
					} else {
						tells(t, r, placed(gen, hop))
					}
				}
			}
		}
	}
}

// TestDropNone: Y1, nothing is dropped, if none is held.
func TestDropNone(t *testing.T) {
	r := New()
	for _, a := range edges() {
		for _, b := range edges() {
			drops(t, r, place(a, b), false)
		}
	}
	tellsNone(t, r)
	holds(t, r, thePass(), api.OK)
	drops(t, r, place(8, 0), true)
	drops(t, r, place(9, 0), false)
	tellsNone(t, r)
}

// TestDropPlaceOfToken: Y1, the place is the token's, whichever nodes it goes between, and whatever else it has.
func TestDropPlaceOfToken(t *testing.T) {
	for _, f := range passes() {
		for _, from := range []int{0, 1, 2, 63} {
			g := changed(f, func(f *api.Frame) { f.From, f.To = from, 63-from })
			r := holding(t, g)
			drops(t, r, place(g.Token.Gen, g.Token.Hop), false)
			tells(t, r, g)
			drops(t, r, place(g.Token.Gen, g.Token.Hop+1), true)
			tellsNone(t, r)
		}
	}
}
