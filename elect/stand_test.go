package elect

import (
	"testing"

	"annona/api"
)

// TestStandExample: R1, node 2 of five, that promised 6, stands with 7.
func TestStandExample(t *testing.T) {
	e := made(t, 5, 2, 6, 0)
	stands(t, e, Result{Send: true, Gen: 7, Bits: of(2)})
	has(t, e, 7, 1, 7)
}

// TestStandAtAllRests: R1, the ballot is the node's least one above what it promised, at each rest of that by n, just below, at and just above one of its own too.
func TestStandAtAllRests(t *testing.T) {
	for _, x := range greater() {
		n, node := x[0], x[1]
		for promised := range 4 * n {
			for _, far := range []int{0, 1000 * n, 1 << 39 / n * n} {
				was := promised + far
				e := made(t, n, node, was, 3)
				ballot := next(n, was, node)
				stands(t, e, Result{Send: true, Gen: ballot, Bits: of(node)})
				has(t, e, ballot, ballot/n, ballot)
				bitsAre(t, e, ballot, of(node))
			}
		}
	}
}

// TestStandBesideItsOwn: R1, just below one of its own ballots it stands with that, at it with the next one; below its first one with that.
func TestStandBesideItsOwn(t *testing.T) {
	for _, x := range greater() {
		n, node := x[0], x[1]
		for _, round := range []int{1, 2, 3, 100, 1 << 32} {
			own := n*round + node
			for _, want := range [][2]int{{own - 1, own}, {own, own + n}, {own + 1, own + n}, {own + n - 1, own + n}} {
				e := made(t, n, node, want[0], 77)
				stands(t, e, Result{Send: true, Gen: want[1], Bits: of(node)})
				has(t, e, want[1], want[1]/n, want[1])
			}
		}
		for below := range n + node {
			e := made(t, n, node, below, 77)
			stands(t, e, Result{Send: true, Gen: n + node, Bits: of(node)})
			has(t, e, n+node, 1, n+node)
		}
	}
}

// TestStandAlone: R1, of one node it wins at once, is not to be sent, and stands no more.
func TestStandAlone(t *testing.T) {
	for _, promised := range []int{0, 1, 2, 3, 1 << 32, top - 2, top - 1} {
		e := made(t, 1, 0, promised, 4)
		want := max(1, promised+1)
		stands(t, e, Result{Gen: want, Bits: of(0), Won: true})
		has(t, e, want, want, 0)
		takes(t, e, want, of(0), none)
		has(t, e, want, want, 0)
	}
	e := made(t, 1, 0, 0, 0)
	for ballot := 1; ballot < 50; ballot++ {
		stands(t, e, Result{Gen: ballot, Bits: of(0), Won: true})
		has(t, e, ballot, ballot, 0)
	}
}

// TestStandAgain: R1, standing again is with the next ballot; the bits begin anew, and frames of the older ballot are nothing.
func TestStandAgain(t *testing.T) {
	for _, x := range greater() {
		n, node := x[0], x[1]
		e := made(t, n, node, 0, 0)
		for round := 1; round < 20; round++ {
			ballot := n*round + node
			stands(t, e, Result{Send: true, Gen: ballot, Bits: of(node)})
			has(t, e, ballot, round, ballot)
			bitsAre(t, e, ballot, of(node))
			takes(t, e, ballot-n, ^uint64(0), none)
			bitsAre(t, e, ballot, of(node))
			if other := (node + 1) % n; n > 3 {
				takes(t, e, ballot, of(other), Result{Gen: ballot, Bits: of(node, other)})
				bitsAre(t, e, ballot, of(node, other))
			}
		}
	}
}

// TestStandAfter: R1, behind a promise of another's ballot, behind a win, and behind a raise, it stands with its next one above.
func TestStandAfter(t *testing.T) {
	e := made(t, 4, 1, 0, 0)
	takes(t, e, 6, of(2), Result{Send: true, Gen: 6, Bits: of(1, 2)})
	stands(t, e, Result{Send: true, Gen: 9, Bits: of(1)})
	has(t, e, 9, 2, 9)
	takes(t, e, 9, of(0, 3), Result{Gen: 9, Bits: of(0, 1, 3), Won: true})
	has(t, e, 9, 2, 0)
	stands(t, e, Result{Send: true, Gen: 13, Bits: of(1)})
	has(t, e, 13, 3, 13)
	raises(t, e, 16, true)
	has(t, e, 16, 3, 0)
	stands(t, e, Result{Send: true, Gen: 17, Bits: of(1)})
	has(t, e, 17, 4, 17)
}

// last is the greatest ballot of a node of n.
func last(n, node int) int {
	b := top
	for b%n != node {
		b--
	}
	return b
}

// TestStandAtTheEnd: R1, the last ballot is stood with; above it ErrOver, and nothing, and all stays.
func TestStandAtTheEnd(t *testing.T) {
	for _, x := range greater() {
		n, node := x[0], x[1]
		end := last(n, node)
		for promised := end - n; promised < end; promised++ {
			e := made(t, n, node, promised, 6)
			stands(t, e, Result{Send: true, Gen: end, Bits: of(node)})
			for range 3 {
				has(t, e, end, end/n, end)
				bitsAre(t, e, end, of(node))
				standsNot(t, e, api.ErrOver)
			}
		}
		for promised := end; promised <= top; promised++ {
			e := made(t, n, node, promised, 6)
			for range 3 {
				standsNot(t, e, api.ErrOver)
				has(t, e, promised, 6, 0)
			}
		}
	}
}

// TestStandOverStays: rule 3, one that stands, and has no next ballot, still stands, with its bits, and may win.
func TestStandOverStays(t *testing.T) {
	end := last(5, 3)
	e := made(t, 5, 3, end-1, 9)
	stands(t, e, Result{Send: true, Gen: end, Bits: of(3)})
	takes(t, e, end, of(0), Result{Gen: end, Bits: of(0, 3)})
	standsNot(t, e, api.ErrOver)
	has(t, e, end, end/5, end)
	takes(t, e, end, of(4), Result{Gen: end, Bits: of(0, 3, 4), Won: true})
	standsNot(t, e, api.ErrOver)
	has(t, e, end, end/5, 0)
	one := made(t, 1, 0, top, 2)
	standsNot(t, one, api.ErrOver)
	has(t, one, top, 2, 0)
}

// TestStandTellsTheSet: R1, the bits told are the node's own one alone, also that of 2^63.
func TestStandTellsTheSet(t *testing.T) {
	for node := range 64 {
		e := made(t, 64, node, 0, 0)
		stands(t, e, Result{Send: true, Gen: 64 + node, Bits: 1 << node})
		has(t, e, 64+node, 1, 64+node)
	}
}
