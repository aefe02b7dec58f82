package elect

import (
	"math"
	"testing"

	"annona/api"
)

// promises are what may have been promised, or a round.
func promises() []int {
	return []int{0, 1, 2, 64, 1 << 31, 1 << 32, top - 1, top}
}

// TestNew: R1, of each ring and each node of it there is an election, that doesn't stand, with that promised and that round.
func TestNew(t *testing.T) {
	for _, x := range places() {
		for _, promised := range promises() {
			for _, round := range promises() {
				e := made(t, x[0], x[1], promised, round)
				has(t, e, promised, round, 0)
				takes(t, e, promised, of(x[1]), none)
				takes(t, e, 0, math.MaxUint64, none)
				has(t, e, promised, round, 0)
			}
		}
	}
}

// wrong holds that there is no election of that.
func wrong(t *testing.T, n, node, promised, round int) {
	t.Helper()
	if e, err := New(n, node, promised, round); e != nil || err != api.ErrArg {
		t.Errorf("New(%d, %d, %d, %d): %v, %d", n, node, promised, round, e, err)
	}
}

// TestNewNoRing: R1, ErrArg, and no election, if there is no ring of n, whichever node, promised and round.
func TestNewNoRing(t *testing.T) {
	for _, n := range []int{0, 65, 66, 128, 1 << 32, 1<<32 + 1, end, -1, -2, -64, math.MinInt, math.MinInt + 1, math.MaxInt} {
		for _, node := range append(edges(), n-1, n, n/2) {
			wrong(t, n, node, 0, 0)
			wrong(t, n, node, 5, 9)
			wrong(t, n, node, top, top)
			wrong(t, n, node, -1, top+1)
		}
	}
}

// TestNewNoNode: R1, ErrArg, and no election, if there is no such node.
func TestNewNoNode(t *testing.T) {
	for _, n := range []int{1, 2, 3, 5, 63, 64} {
		for _, node := range []int{-1, -2, -n, -64, n, n + 1, 2 * n, 64, 65, 127, 128, 1 << 32, math.MinInt, math.MinInt + 1, math.MaxInt} {
			for _, promised := range []int{-1, 0, 5, top} {
				wrong(t, n, node, promised, 0)
				wrong(t, n, node, promised, top)
			}
		}
	}
}

// TestNewEach: R1, there is an election of just those nodes that are one of a ring.
func TestNewEach(t *testing.T) {
	for n := -3; n <= 67; n++ {
		for node := -3; node <= 67; node++ {
			if n >= 1 && n <= 64 && node >= 0 && node < n {
				has(t, made(t, n, node, 5, 7), 5, 7, 0)
			} else {
				wrong(t, n, node, 5, 7)
			}
		}
	}
}

// TestNewNoNumbers: R1, ErrArg, and no election, if promised, or the round, is not from 0 to 2^40.
func TestNewNoNumbers(t *testing.T) {
	for _, x := range places() {
		for _, bad := range noNumbers() {
			for _, other := range append(promises(), noNumbers()...) {
				wrong(t, x[0], x[1], bad, other)
				wrong(t, x[0], x[1], other, bad)
			}
		}
	}
}

// TestTwoShareNothing: R1, what one election stands with, takes and promises turns nothing of another one of the same numbers.
func TestTwoShareNothing(t *testing.T) {
	for _, x := range greater() {
		n, node := x[0], x[1]
		a, b := made(t, n, node, 5, 7), made(t, n, node, 5, 7)
		if a == b {
			t.Fatal("two are one")
		}
		ballot := next(n, 5, node)
		stands(t, a, Result{Send: true, Gen: ballot, Bits: of(node)})
		has(t, b, 5, 7, 0)
		takes(t, a, ballot+9, 1<<63, Result{Send: true, Gen: ballot + 9, Bits: 1<<63 | of(node)})
		has(t, b, 5, 7, 0)
		raises(t, a, top, true)
		has(t, b, 5, 7, 0)
		stands(t, b, Result{Send: true, Gen: ballot, Bits: of(node)})
		has(t, b, ballot, ballot/n, ballot)
		has(t, a, top, ballot/n, 0)
		has(t, made(t, n, node, 5, 7), 5, 7, 0)
	}
}

// TestTwoOfTwoKinds: R1, each election has its own n, node, promised and round.
func TestTwoOfTwoKinds(t *testing.T) {
	a, b := made(t, 3, 0, 5, 8), made(t, 5, 2, 6, 1)
	stands(t, a, Result{Send: true, Gen: 6, Bits: of(0)})
	stands(t, b, Result{Send: true, Gen: 7, Bits: of(2)})
	has(t, a, 6, 2, 6)
	has(t, b, 7, 1, 7)
	takes(t, a, 6, of(1), Result{Gen: 6, Bits: of(0, 1), Won: true})
	takes(t, b, 7, of(1), Result{Gen: 7, Bits: of(1, 2)})
	takes(t, b, 7, of(4), Result{Gen: 7, Bits: of(1, 2, 4), Won: true})
	has(t, a, 6, 2, 0)
	has(t, b, 7, 1, 0)
}
