package token

import (
	"math"
	"testing"

	"annona/api"
)

// K1: all that a token's rows have, what is Out too, added as numbers.
func TestCredit(t *testing.T) {
	for _, c := range []struct {
		t    api.Token
		want int
	}{
		{api.Token{}, 0},
		{rowed(), 0},
		{rowed(rowOf(5, 0)), 0},
		{rowed(rowOf(5, 6)), 6},
		{rowed(rowOf(5, 6, to(1, 4))), 10},
		{rowed(rowOf(5, 0, to(1, 4))), 4},
		{rowed(rowOf(5, 6, to(0, 1), to(1, 4), to(63, 20))), 31},
		{rowed(rowOf(1, 6), rowOf(5, 30)), 36},
		{rowed(rowOf(1, 6, to(2, 3)), rowOf(5, 30), rowOf(65536, 0, to(2, 100), to(3, 200))), 339},
		{full(), 21},
		{rowed(rowOf(5, span, to(1, span)), rowOf(6, span)), 3 * span},
		{rowed(rowOf(1, 6), rowOf(1, 6)), 12},
		{rowed(rowOf(1, end-7), rowOf(5, 6)), end - 1},
		{rowed(rowOf(1, end-7), rowOf(5, 7)), end},
		{rowed(rowOf(1, end-7), rowOf(5, 8)), end},
		{rowed(rowOf(1, end), rowOf(5, end)), end},
		{rowed(rowOf(1, end), rowOf(5, end), rowOf(6, end), rowOf(7, end)), end},
		{rowed(rowOf(1, math.MaxInt, to(1, math.MaxInt)), rowOf(5, math.MaxInt)), end},
		{rowed(rowOf(1, 5, to(1, math.MaxInt))), end},
		{rowed(rowOf(1, -9), rowOf(5, 6)), 6},
		{rowed(rowOf(5, 6), rowOf(7, -9)), 6},
		{rowed(rowOf(5, 6, to(1, -9))), 6},
		{rowed(rowOf(5, -6, to(1, 9))), 9},
		{rowed(rowOf(-5, math.MinInt, to(-1, math.MinInt)), rowOf(-9, math.MinInt)), 0},
		{rowed(rowOf(1, end), rowOf(5, -9)), end},
		{wrong(), 15},
	} {
		if got := Credit(c.t); got != c.want {
			t.Errorf("%+v: %d, not %d", c.t, got, c.want)
		}
	}
}

// K1, held against its words, of drawn tokens.
func TestCreditDrawn(t *testing.T) {
	x := uint64(110)
	for range 20000 {
		of := drawToken(&x)
		if got, want := Credit(of), plainCredit(of); got != want {
			t.Fatalf("%+v: %d, not %d", of, got, want)
		}
	}
}

// K1: what a token was stamped with, or how far it went, is no credit.
func TestCreditStays(t *testing.T) {
	stampedOne, _ := Stamp(full(), 1, 1000)
	passed, _ := Pass(stampedOne)
	if Credit(stampedOne) != 21 || Credit(passed) != 21 {
		t.Errorf("%d, %d", Credit(stampedOne), Credit(passed))
	}
	if made, _ := Fresh(3, 5, 2, 40); Credit(made) != 0 {
		t.Errorf("a fresh one has %d", Credit(made))
	}
}
