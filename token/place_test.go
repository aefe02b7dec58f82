package token

import (
	"math"
	"testing"

	"annona/api"
)

// K1: a place is newer by its generation, whatever its hop; of the same generation by its hop.
func TestNewer(t *testing.T) {
	for _, c := range []struct {
		a, b Place
		want bool
	}{
		{Place{2, 0}, Place{1, 9}, true},
		{Place{1, 9}, Place{2, 0}, false},
		{Place{2, 9}, Place{1, 0}, true},
		{Place{1, 0}, Place{2, 9}, false},
		{Place{2, 5}, Place{1, 5}, true},
		{Place{1, 5}, Place{2, 5}, false},
		{Place{2, 5}, Place{2, 4}, true},
		{Place{2, 4}, Place{2, 5}, false},
		{Place{2, 5}, Place{2, 5}, false},
		{Place{}, Place{}, false},
		{Place{0, 1}, Place{}, true},
		{Place{1, 0}, Place{0, 1}, true},
		{Place{-1, 9}, Place{-2, 10}, true},
		{Place{-2, 10}, Place{-1, 9}, false},
		{Place{-1, -1}, Place{-1, -2}, true},
		{Place{-1, -2}, Place{-1, -1}, false},
		{Place{0, -1}, Place{0, 0}, false},
		{Place{most, most}, Place{most, most - 1}, true},
		{Place{math.MaxInt, math.MinInt}, Place{math.MinInt, math.MaxInt}, true},
		{Place{math.MinInt, math.MaxInt}, Place{math.MaxInt, math.MinInt}, false},
		{Place{math.MaxInt, math.MaxInt}, Place{math.MaxInt, math.MinInt}, true},
		{Place{math.MaxInt, math.MinInt}, Place{math.MaxInt, math.MaxInt}, false},
		{Place{math.MinInt, 0}, Place{math.MinInt, -1}, true},
		{Place{math.MaxInt, 0}, Place{math.MaxInt - 1, 0}, true},
		{Place{math.MinInt, math.MinInt}, Place{math.MinInt, math.MinInt}, false},
	} {
		if got := Newer(c.a, c.b); got != c.want {
			t.Errorf("%v newer than %v: %t", c.a, c.b, got)
		}
	}
}

// K1: a token's place is what it has, also if it may not be.
func TestAt(t *testing.T) {
	for _, c := range []struct {
		t    api.Token
		want Place
	}{
		{full(), Place{7, 3}},
		{api.Token{}, Place{}},
		{wrong(), Place{-7, -3}},
		{api.Token{Gen: math.MinInt, Hop: math.MaxInt}, Place{math.MinInt, math.MaxInt}},
		{api.Token{Gen: most, Hop: most}, Place{most, most}},
		{api.Token{Hop: 1}, Place{0, 1}},
	} {
		if got := At(c.t); got != c.want {
			t.Errorf("the place of %+v: %v", c.t, got)
		}
	}
}

// K1: passed on, a token is as it was, but for its hop; it is never above 2^40.
func TestPass(t *testing.T) {
	for _, c := range []struct {
		hop, want int
		e         api.Errno
	}{
		{0, 1, api.OK},
		{1, 2, api.OK},
		{-1, 0, api.OK},
		{-9, -8, api.OK},
		{math.MinInt, math.MinInt + 1, api.OK},
		{most - 2, most - 1, api.OK},
		{most - 1, most, api.OK},
		{most, most, api.ErrOver},
		{most + 1, most + 1, api.ErrOver},
		{end, end, api.ErrOver},
		{math.MaxInt - 1, math.MaxInt - 1, api.ErrOver},
		{math.MaxInt, math.MaxInt, api.ErrOver},
	} {
		for _, of := range []api.Token{full(), wrong(), {}} {
			of.Hop = c.hop
			want := of
			want.Hop = c.want
			got, e := Pass(of)
			checkTold(t, "passed on", got, e, want, c.e)
		}
	}
}

// checkLine holds two places against P10.3.
func checkLine(t *testing.T, a, b Place) {
	t.Helper()
	ways := 0
	for _, is := range []bool{Newer(a, b), Newer(b, a), a == b} {
		if is {
			ways++
		}
	}
	if ways != 1 {
		t.Errorf("%v and %v: %t, %t", a, b, Newer(a, b), Newer(b, a))
	}
	if Newer(a, a) || Newer(b, b) {
		t.Errorf("%v or %v is newer than itself", a, b)
	}
}

// P10.3 by what it says: of two places one is newer, or they are the same; and they stand in one line.
func TestOneLine(t *testing.T) {
	x := uint64(103)
	for range 20000 {
		a, b, c := Place{drawNear(&x), drawNear(&x)}, Place{drawNear(&x), drawNear(&x)}, Place{drawNear(&x), drawNear(&x)}
		switch draw(&x, 3) {
		case 0:
			b.Gen, c.Gen = a.Gen, a.Gen
		case 1:
			b.Hop = a.Hop
		}
		checkLine(t, a, b)
		if Newer(a, b) && Newer(b, c) && !Newer(a, c) {
			t.Fatalf("%v, %v and %v are in no line", a, b, c)
		}
	}
	for _, gen := range edges() {
		for _, hop := range edges() {
			checkLine(t, Place{gen, hop}, Place{hop, gen})
			checkLine(t, Place{gen, hop}, Place{gen, 0})
			checkLine(t, Place{gen, hop}, Place{0, hop})
			checkLine(t, Place{gen, hop}, Place{gen, hop})
		}
	}
}

// P10.3 by what it says: passing on makes a newer one, as long as it may.
func TestPassedOnIsNewer(t *testing.T) {
	x := uint64(104)
	passed := 0
	for range 5000 {
		of := drawToken(&x)
		got, e := Pass(of)
		switch {
		case e == api.OK:
			passed++
			if !Newer(At(got), At(of)) || Newer(At(of), At(got)) || got.Hop != of.Hop+1 {
				t.Fatalf("from %v to %v", At(of), At(got))
			}
		case At(got) != At(of) || of.Hop < most:
			t.Fatalf("%d from %v to %v", e, At(of), At(got))
		}
	}
	if passed < 2000 {
		t.Errorf("only %d were passed on", passed)
	}
	a := full()
	for range 50 {
		b, _ := Pass(a)
		if !Newer(At(b), At(a)) || !Newer(At(b), At(full())) || !Newer(Place{8, 0}, At(b)) {
			t.Fatalf("from %v to %v", At(a), At(b))
		}
		a = b
	}
}
