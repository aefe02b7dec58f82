package elect

import (
	"math"
	"testing"
)

// notAbove are ballots that are below 1, above 2^40, or below what was promised.
func notAbove(promised int) []int {
	l := []int{}
	for _, b := range append(edges(), promised-1, promised-2, promised-64, promised/2) {
		if b < 1 || b > top || b < promised {
			l = append(l, b)
		}
	}
	return l
}

// TestTakeNothing: R1, a ballot that is below 1, above 2^40, or below what it promised is nothing, and nothing changes.
func TestTakeNothing(t *testing.T) {
	for _, x := range greater() {
		n, node := x[0], x[1]
		for _, promised := range []int{0, 1, 2, 7, 64, 1000, 1 << 32, top - 200, top - 1, top} {
			e := made(t, n, node, promised, 5)
			for _, gen := range notAbove(promised) {
				for _, bits := range wide() {
					takes(t, e, gen, bits, none)
				}
			}
			has(t, e, promised, 5, 0)
			if promised > top-2*n {
				continue
			}
			e = stood(t, n, node, promised)
			ballot := next(n, promised, node)
			for _, gen := range notAbove(ballot) {
				for _, bits := range wide() {
					takes(t, e, gen, bits, none)
				}
			}
			has(t, e, ballot, ballot/n, ballot)
			bitsAre(t, e, ballot, of(node))
		}
	}
}

// TestTakeAbove: R1, a ballot above what it promised is promised, and goes on, with the bits that came and its own one; the round stays.
func TestTakeAbove(t *testing.T) {
	for _, x := range places() {
		n, node := x[0], x[1]
		for _, promised := range []int{0, 1, 7, 64, 1 << 32, top - 2, top - 1} {
			for _, gen := range []int{1, 2, promised + 1, promised + 2, promised + n, 1 << 33, top - 1, top} {
				if gen <= promised || gen > top {
					continue
				}
				for _, bits := range wide() {
					e := made(t, n, node, promised, 5)
					takes(t, e, gen, bits, Result{Send: true, Gen: gen, Bits: bits | of(node)})
					has(t, e, gen, 5, 0)
					takes(t, e, gen, bits, none)
					has(t, e, gen, 5, 0)
				}
			}
		}
	}
}

// TestTakeAboveWhileStanding: R1, one that stands, and takes a greater ballot, stands no more, its round stays; its own bits don't go with that.
func TestTakeAboveWhileStanding(t *testing.T) {
	for _, x := range greater() {
		n, node := x[0], x[1]
		for _, more := range []int{1, 2, n, n + 1, 1 << 32} {
			e := stood(t, n, node, 9)
			ballot := next(n, 9, node)
			other := (node + 1) % n
			if n > 3 {
				takes(t, e, ballot, of(other), Result{Gen: ballot, Bits: of(node, other)})
			}
			takes(t, e, ballot+more, 0, Result{Send: true, Gen: ballot + more, Bits: of(node)})
			has(t, e, ballot+more, ballot/n, 0)
			takes(t, e, ballot, from(0, n), none)
			takes(t, e, ballot+more, from(0, n), none)
			has(t, e, ballot+more, ballot/n, 0)
		}
	}
}

// TestTakeAboveWinsNothing: R1, a greater ballot, though all promised it, and be it the node's own, is not won by who doesn't stand.
func TestTakeAboveWinsNothing(t *testing.T) {
	for _, x := range places() {
		n, node := x[0], x[1]
		for _, gen := range []int{n + node, 2*n + node, 5*n + node + 1} {
			e := made(t, n, node, 0, 0)
			takes(t, e, gen, from(0, n), Result{Send: true, Gen: gen, Bits: from(0, n)})
			has(t, e, gen, 0, 0)
			takes(t, e, gen, from(0, n), none)
		}
	}
}

// TestTakeEqualNotStanding: R1, of just what it promised: nothing, if it doesn't stand, whoever promised it.
func TestTakeEqualNotStanding(t *testing.T) {
	for _, x := range places() {
		n, node := x[0], x[1]
		for _, promised := range []int{0, 1, n + node, 1 << 32, last(n, node), top} {
			e := made(t, n, node, promised, 8)
			for _, bits := range wide() {
				takes(t, e, promised, bits, none)
				has(t, e, promised, 8, 0)
			}
		}
	}
}

// TestTakeEqual: R1, the bits that came are its, too; it tells the ballot, and all its bits, till a majority is in them: then it has won, and stands no more.
func TestTakeEqual(t *testing.T) {
	for _, x := range greater() {
		n, node := x[0], x[1]
		e := stood(t, n, node, 20)
		ballot := next(n, 20, node)
		bits := of(node)
		for k := 1; k < n; k++ {
			other := (node + k) % n
			bits |= of(other)
			if 2*(k+1) > n {
				takes(t, e, ballot, of(other), Result{Gen: ballot, Bits: bits, Won: true})
				has(t, e, ballot, ballot/n, 0)
				break
			}
			takes(t, e, ballot, of(other), Result{Gen: ballot, Bits: bits})
			takes(t, e, ballot, of(other), Result{Gen: ballot, Bits: bits})
			has(t, e, ballot, ballot/n, ballot)
		}
		for _, again := range wide() {
			takes(t, e, ballot, again, none)
			has(t, e, ballot, ballot/n, 0)
		}
	}
}

// TestTakeMajority: R1, of each ring, the least majority wins, and one fewer doesn't, in one frame too, with its own bit in it or not.
func TestTakeMajority(t *testing.T) {
	for n := 2; n <= 64; n++ {
		least := 0
		for 2*least <= n {
			least++
		}
		for _, node := range []int{0, n / 2, n - 1} {
			bits := of(node)
			for k := 1; k < least-1; k++ {
				bits |= of((node + n - k) % n)
			}
			more := of((node + 1) % n)
			ballot := n + node
			for _, brought := range []uint64{bits, bits &^ of(node)} {
				e := stood(t, n, node, 0)
				takes(t, e, ballot, brought, Result{Gen: ballot, Bits: bits})
				has(t, e, ballot, 1, ballot)
				takes(t, e, ballot, more, Result{Gen: ballot, Bits: bits | more, Won: true})
				has(t, e, ballot, 1, 0)
				e = stood(t, n, node, 0)
				takes(t, e, ballot, brought|more, Result{Gen: ballot, Bits: bits | more, Won: true})
				has(t, e, ballot, 1, 0)
			}
		}
	}
}

// TestTakeAllAtOnce: R1, all nodes' bits at once win, and all are told; what comes again behind that is nothing.
func TestTakeAllAtOnce(t *testing.T) {
	for _, x := range greater() {
		n, node := x[0], x[1]
		ballot := n + node
		e := stood(t, n, node, 0)
		takes(t, e, ballot, from(0, n), Result{Gen: ballot, Bits: from(0, n), Won: true})
		for range 3 {
			takes(t, e, ballot, from(0, n), none)
			has(t, e, ballot, 1, 0)
		}
	}
}

// TestTakeZero: R1, 0 is no ballot, also where 0 is promised, or an election doesn't stand.
func TestTakeZero(t *testing.T) {
	for _, x := range places() {
		e := made(t, x[0], x[1], 0, 0)
		takes(t, e, 0, math.MaxUint64, none)
		has(t, e, 0, 0, 0)
		raises(t, e, 5, true)
		takes(t, e, 0, math.MaxUint64, none)
		has(t, e, 5, 0, 0)
	}
}
