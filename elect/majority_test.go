package elect

import (
	"math/bits"
	"testing"

	"annona/api"
)

// brought is what came of an election's ballot while it stood: the sets that it was brought, and its own bit.
type brought struct {
	ballot int
	bits   uint64
}

// holdsWin holds that a win is with a ballot of the node's own, not won before, with a majority in the bits that came.
func holdsWin(t *testing.T, n, node int, r Result, b brought, before map[int]int) {
	t.Helper()
	if r.Gen%n != node || r.Gen < n {
		t.Errorf("node %d of %d won %d", node, n, r.Gen)
	}
	if before[r.Gen]++; before[r.Gen] > 1 {
		t.Errorf("%d was won again", r.Gen)
	}
	if r.Gen != b.ballot || 2*bits.OnesCount64(b.bits&from(0, n)) <= n {
		t.Errorf("node %d of %d won %d; %d came, with %b", node, n, r.Gen, b.ballot, b.bits)
	}
}

// TestWinsByAMajority: P17.2, over drawn calls: it wins only with a ballot of its own, once, with a majority in the bits that it was brought, and its own; what it promised never falls.
func TestWinsByAMajority(t *testing.T) {
	x := uint64(72)
	won := 0
	for range 3000 {
		n := 1 + draw(&x, 9)
		node := draw(&x, n)
		e := made(t, n, node, draw(&x, 20), 0)
		before := map[int]int{}
		var came brought
		for range 60 {
			was := e.Promised()
			a := drawAct(&x, n, was)
			var r Result
			switch a.kind {
			case 0:
				if told, err := e.Stand(); err == api.OK {
					r, came = told, brought{told.Gen, of(node)}
				}
			case 1:
				if a.gen == came.ballot {
					came.bits |= a.bits
				}
				r = e.Take(a.gen, a.bits)
			case 2:
				e.Raise(a.gen)
			}
			if r.Won {
				won++
				holdsWin(t, n, node, r, came, before)
			}
			if e.Promised() < was {
				t.Errorf("%d was promised, and now %d", was, e.Promised())
			}
		}
		if t.Failed() {
			t.Fatalf("node %d of %d", node, n)
		}
	}
	if won < 3000 {
		t.Errorf("only %d were won", won)
	}
}

// TestWinsAsSoon: P17.2, it wins just when a majority is in the bits that came, in whichever order they come, not ahead of that, and not later.
func TestWinsAsSoon(t *testing.T) {
	x := uint64(73)
	for n := 2; n <= 64; n++ {
		for range 30 {
			node := draw(&x, n)
			e := stood(t, n, node, draw(&x, 300))
			came := of(node)
			for won := false; !won; {
				one := of(draw(&x, 64))
				came |= one
				won = 2*bits.OnesCount64(came&from(0, n)) > n
				takes(t, e, e.Promised(), one, Result{Gen: e.Promised(), Bits: came, Won: won})
			}
			if e.Standing() != 0 {
				t.Errorf("node %d of %d stands still", node, n)
			}
		}
	}
}

// TestWinsNothingOfOthers: P17.2, with another's ballot, or one of none, nobody wins, whatever comes, in whichever order.
func TestWinsNothingOfOthers(t *testing.T) {
	for n := 1; n <= 9; n++ {
		for node := range n {
			for gen := 1; gen < 4*n; gen++ {
				e := made(t, n, node, 0, 0)
				for range 3 {
					for _, bits := range wide() {
						if e.Take(gen, bits).Won {
							t.Errorf("node %d of %d won %d, with which it didn't stand", node, n, gen)
						}
					}
				}
			}
		}
	}
}

// TestStandsWithItsOwn: P17.2, what it stands with is its own, and what it promised; its round is that ballot's.
func TestStandsWithItsOwn(t *testing.T) {
	x := uint64(74)
	for range 3000 {
		n := 2 + draw(&x, 63)
		node := draw(&x, n)
		e := made(t, n, node, draw(&x, 1<<31)<<draw(&x, 10), 0)
		was := e.Promised()
		r, err := e.Stand()
		if err != api.OK || r.Gen <= was || r.Gen > was+max(2*n, n+node) || r.Gen%n != node {
			t.Fatalf("node %d of %d, behind %d: %v, %d", node, n, was, r, err)
		}
		has(t, e, r.Gen, r.Gen/n, r.Gen)
	}
}
