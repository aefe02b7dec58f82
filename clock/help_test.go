package clock

import (
	"math"
	"math/big"
	"testing"

	"annona/api"
)

// end is 2^62, above which no number is.
const end = api.Forever

// row is one call with what it must answer.
type row struct {
	name      string
	got, want int
}

func check(t *testing.T, rows []row) {
	t.Helper()
	for _, r := range rows {
		if r.got != r.want {
			t.Errorf("%s: %d, not %d", r.name, r.got, r.want)
		}
	}
}

// asked is one question with what it must answer.
type asked struct {
	name      string
	got, want bool
}

func checkAsked(t *testing.T, l []asked) {
	t.Helper()
	for _, a := range l {
		if a.got != a.want {
			t.Errorf("%s: %t, not %t", a.name, a.got, a.want)
		}
	}
}

// edges are the ints at and beside all bounds that a number and a draw have.
func edges() []int {
	return []int{math.MinInt, math.MinInt + 1, -end - 1, -end, -end + 1, -1, 0, 1, 2, end - 2, end - 1, end, end + 1, math.MaxInt - 1, math.MaxInt}
}

// draw is a fixed rule's next, below n: the same ones each time.
func draw(x *uint64, n int) int {
	*x = *x*6364136223846793005 + 1442695040888963407
	return int(*x >> 33 % uint64(n))
}

// drawAny is a fixed rule's next int, of any size and either sign.
func drawAny(x *uint64) int {
	*x = *x*6364136223846793005 + 1442695040888963407
	return int(*x) >> draw(x, 63)
}

// whole is an int without bounds on what is made of it.
func whole(x int) *big.Int {
	return big.NewInt(int64(x))
}

// number is x as a number.
func number(x *big.Int) *big.Int {
	return between(x, whole(0), whole(end))
}

// between is x, but from lo to hi.
func between(x, lo, hi *big.Int) *big.Int {
	switch {
	case x.Cmp(lo) < 0:
		return lo
	case x.Cmp(hi) > 0:
		return hi
	}
	return x
}

func sum(a, b *big.Int) *big.Int  { return new(big.Int).Add(a, b) }
func less(a, b *big.Int) *big.Int { return new(big.Int).Sub(a, b) }

// plainRead is a reading by the words: t and the draw, but from t less the skew to t and the skew; and as a number.
func plainRead(t, draw, skew int) int {
	at, wrong := number(whole(t)), number(whole(skew))
	return int(number(between(sum(at, whole(draw)), less(at, wrong), sum(at, wrong))).Int64())
}

// plainThen is since and the span, as numbers, added as such.
func plainThen(since, span int) *big.Int {
	return number(sum(number(whole(since)), number(whole(span))))
}

// plainPassed is Passed by the words: now is then, or later.
func plainPassed(since, now, span int) bool {
	return number(whole(now)).Cmp(plainThen(since, span)) >= 0
}

// plainLeft is Left by the words: how long it is till then; 0, if it has passed.
func plainLeft(since, now, span int) int {
	if plainPassed(since, now, span) {
		return 0
	}
	return int(less(plainThen(since, span), number(whole(now))).Int64())
}

// checkPlain holds the three calls, at three ints, against the plain reckoning.
func checkPlain(t *testing.T, a, b, c int) {
	t.Helper()
	if got, want := Read(a, b, c), plainRead(a, b, c); got != want {
		t.Errorf("Read(%d, %d, %d): %d, not %d", a, b, c, got, want)
	}
	if got, want := Passed(a, b, c), plainPassed(a, b, c); got != want {
		t.Errorf("Passed(%d, %d, %d): %t, not %t", a, b, c, got, want)
	}
	if got, want := Left(a, b, c), plainLeft(a, b, c); got != want {
		t.Errorf("Left(%d, %d, %d): %d, not %d", a, b, c, got, want)
	}
}
