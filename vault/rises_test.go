package vault

import (
	"math"
	"testing"
)

// rises holds what Rises tells of two states.
func rises(t *testing.T, name string, a, b State, want bool) {
	t.Helper()
	if got := Rises(a, b); got != want {
		t.Errorf("%s: Rises(%v, %v) is %v", name, a, b, got)
	}
}

// TestRisesToItself: the same states, of all kinds.
func TestRisesToItself(t *testing.T) {
	for _, s := range []State{
		{}, {1, 2, 3, 4}, {4, 3, 2, 1}, {0, 0, 0, 7}, {7, 0, 0, 0}, {greatest, greatest, greatest, greatest},
		{-1, -2, -3, -4}, {math.MinInt, math.MinInt, math.MinInt, math.MinInt}, {math.MaxInt, math.MaxInt, math.MaxInt, math.MaxInt},
	} {
		rises(t, "the same", s, s, true)
	}
}

// TestRisesByOneNumber: each of the four one more, and one less, alone, by little and by much.
func TestRisesByOneNumber(t *testing.T) {
	for _, s := range []State{{5, 5, 5, 5}, {1, 2, 3, 4}, {9, 8, 7, 6}, {1 << 39, 1 << 39, 1 << 39, 1 << 39}} {
		for _, p := range places() {
			is := *p.of(&s)
			for _, more := range []int{1, 2, 1 << 20, 1 << 39} {
				rises(t, p.name+" more", s, with(s, p, is+more), true)
				rises(t, p.name+" less", with(s, p, is+more), s, false)
			}
			rises(t, p.name+" one less", s, with(s, p, is-1), false)
			rises(t, p.name+" one more", with(s, p, is-1), s, true)
		}
	}
}

// TestRisesByPlace: GEN and HOP are one thing, GEN first.
func TestRisesByPlace(t *testing.T) {
	s := State{5, 5, 5, 5}
	for _, c := range []struct {
		name string
		b    State
		want bool
	}{
		{"GEN more, HOP less", State{5, 6, 4, 5}, true},
		{"GEN more, HOP 0", State{5, 6, 0, 5}, true},
		{"GEN more, HOP more", State{5, 6, 6, 5}, true},
		{"GEN less, HOP more", State{5, 4, 6, 5}, false},
		{"GEN less, HOP much more", State{5, 4, greatest, 5}, false},
		{"GEN less, HOP less", State{5, 4, 4, 5}, false},
		{"GEN less, HOP more, all else more", State{6, 4, 6, 6}, false},
		{"HOP less, all else but GEN more", State{6, 5, 4, 6}, false},
	} {
		rises(t, c.name, s, c.b, c.want)
	}
}

// TestRisesNotByLess: PROMISED or ROUND less, whatever else is more.
func TestRisesNotByLess(t *testing.T) {
	s := State{5, 5, 5, 5}
	for _, b := range []State{
		{4, 5, 5, 5}, {4, 6, 5, 5}, {4, 5, 6, 5}, {4, 5, 5, 6}, {4, 6, 6, 6}, {4, greatest, greatest, greatest}, {0, 9, 0, 9},
		{5, 5, 5, 4}, {6, 5, 5, 4}, {5, 6, 5, 4}, {5, 5, 6, 4}, {6, 6, 6, 4}, {greatest, greatest, greatest, 4}, {9, 9, 0, 0},
		{4, 6, 6, 4}, {4, 4, 4, 4}, {0, 9, 9, 0},
	} {
		rises(t, "PROMISED or ROUND less", s, b, false)
	}
}

// ends are ints at both ends, and beside all that the chapter names.
func ends() []int {
	return []int{math.MinInt, -greatest, -1, 0, 1, greatest - 1, greatest, greatest + 1, 1 << 62, math.MaxInt}
}

// TestRisesByItsWords: each pair of states out of small numbers, and of those at the ends, two places at a time.
func TestRisesByItsWords(t *testing.T) {
	for i := range 6561 {
		var a, b State
		k := i
		for _, p := range places() {
			*p.of(&a), *p.of(&b) = k%3, k/3%3
			k /= 9
		}
		rises(t, "small numbers", a, b, plainRises(a, b))
	}
	var far []State
	for i, p := range places() {
		for _, q := range places()[i+1:] {
			for _, x := range ends() {
				for _, y := range ends() {
					far = append(far, with(with(State{3, 3, 3, 3}, p, x), q, y))
				}
			}
		}
	}
	for _, a := range far {
		for _, b := range far {
			if Rises(a, b) != plainRises(a, b) {
				t.Fatalf("Rises(%v, %v) is %v", a, b, Rises(a, b))
			}
		}
	}
}
