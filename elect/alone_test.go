package elect

import (
	"testing"

	"annona/api"
)

// all are the elections of all nodes of a ring, with what they told, and what became of it.
type all struct {
	n      int
	e      []*Election
	told   []Result
	winner map[int]int    // whose each ballot was, that was won, and one more: 0 is nobody's
	had    map[int]uint64 // who promised each ballot at some time
}

// allOf are elections of all nodes, that promised something each, below so much.
func allOf(t *testing.T, x *uint64, n, below int) *all {
	t.Helper()
	a := &all{n: n, winner: map[int]int{}, had: map[int]uint64{}}
	for i := range n {
		e := made(t, n, i, draw(x, below), draw(x, 3))
		a.e = append(a.e, e)
		a.had[e.Promised()] |= of(i)
	}
	return a
}

// looked looks at what a node told, and at what it promises behind that.
func (a *all) looked(t *testing.T, node int, r Result) {
	t.Helper()
	a.had[a.e[node].Promised()] |= of(node)
	if r.Gen > 0 {
		a.told = append(a.told, r)
	}
	if !r.Won {
		return
	}
	if a.winner[r.Gen] != 0 {
		t.Errorf("of %d: %d was won by %d, and by %d", a.n, r.Gen, a.winner[r.Gen]-1, node)
	}
	a.winner[r.Gen] = node + 1
	if r.Gen%a.n != node {
		t.Errorf("of %d: %d was won by %d", a.n, r.Gen, node)
	}
	had, keep := 0, 0
	for i, e := range a.e {
		if a.had[r.Gen]>>i&1 == 1 {
			had++
			if e.Promised() >= r.Gen {
				keep++
			}
		}
	}
	if 2*had <= a.n || keep != had {
		t.Errorf("of %d: %d was won by %d; %d had promised it, and of these %d promise no lesser one", a.n, r.Gen, node, had, keep)
	}
}

// step lets one node stand, or start anew, or take what was told; all that was told may come again.
func (a *all) step(t *testing.T, x *uint64) {
	t.Helper()
	node := draw(x, a.n)
	e := a.e[node]
	switch k := draw(x, 100); {
	case k < 2:
		r, err := e.Stand()
		if err != api.OK {
			t.Fatalf("Stand: %d", err)
		}
		a.looked(t, node, r)
	case k < 4:
		a.e[node] = made(t, a.n, node, e.Promised(), e.Round())
		a.looked(t, node, none)
	case k < 5:
		e.Raise(e.Promised() + draw(x, 3))
		a.looked(t, node, none)
	case len(a.told) == 0:
	case k < 80:
		// Of late ones, so that something is won.
		r := a.told[len(a.told)-1-draw(x, min(len(a.told), a.n+2))]
		a.looked(t, node, e.Take(r.Gen, r.Bits))
	default:
		r := a.told[draw(x, len(a.told))]
		a.looked(t, node, e.Take(r.Gen, r.Bits))
	}
}

// TestNoBallotIsWonTwice: P17.3, over drawn elections of all nodes, with frames that these told, lost, told twice and late, in any order, with nodes that start anew: no ballot is won twice, each is its winner's, and a majority had promised it, and promises no lesser one any more.
func TestNoBallotIsWonTwice(t *testing.T) {
	for n := 1; n <= 9; n++ {
		x := uint64(700 + n)
		won := 0
		for range 150 {
			a := allOf(t, &x, n, 3*n)
			for range 600 {
				a.step(t, &x)
			}
			won += len(a.winner)
			if t.Failed() {
				t.FailNow()
			}
		}
		if won < 200 {
			t.Errorf("of %d: only %d were won", n, won)
		}
	}
}

// TestOneOfTwoThatStandAtOnce: P17.3, all nodes stand at once, and all that they told goes to all, in drawn orders: of one ballot nobody but its own node wins, and at most one of those of a round.
func TestOneOfTwoThatStandAtOnce(t *testing.T) {
	x := uint64(79)
	for n := 2; n <= 9; n++ {
		won := 0
		for range 200 {
			a := allOf(t, &x, n, 1)
			for i := range n {
				r, _ := a.e[i].Stand()
				a.looked(t, i, r)
			}
			for range 30 * n {
				node, r := draw(&x, n), a.told[draw(&x, len(a.told))]
				a.looked(t, node, a.e[node].Take(r.Gen, r.Bits))
			}
			won += len(a.winner)
			if t.Failed() {
				t.FailNow()
			}
		}
		if won < 20 {
			t.Errorf("of %d: only %d were won", n, won)
		}
	}
}

// TestRoundTheRing: P17.3, a ballot that goes round the ring comes back with all bits, and is won by its own node alone.
func TestRoundTheRing(t *testing.T) {
	for n := 2; n <= 64; n++ {
		x := uint64(n)
		a := allOf(t, &x, n, 1)
		stander := n / 2
		r, _ := a.e[stander].Stand()
		a.looked(t, stander, r)
		for k := 1; k < n; k++ {
			node := (stander + k) % n
			was := r
			r = a.e[node].Take(was.Gen, was.Bits)
			a.looked(t, node, r)
			if want := (Result{Send: true, Gen: n + stander, Bits: was.Bits | of(node)}); r != want {
				t.Fatalf("of %d: node %d told %v, not %v", n, node, r, want)
			}
		}
		r = a.e[stander].Take(r.Gen, r.Bits)
		a.looked(t, stander, r)
		if want := (Result{Gen: n + stander, Bits: from(0, n), Won: true}); r != want {
			t.Errorf("of %d: %v, not %v", n, r, want)
		}
	}
}

// TestLateOnesAreNothing: P17.3, a node that started anew with what it promised doesn't win with the ballot that it stood with before, though all promised it.
func TestLateOnesAreNothing(t *testing.T) {
	for n := 2; n <= 9; n++ {
		for node := range n {
			e := stood(t, n, node, 0)
			ballot := e.Promised()
			e = made(t, n, node, e.Promised(), e.Round())
			takes(t, e, ballot, from(0, n), none)
			stands(t, e, Result{Send: true, Gen: ballot + n, Bits: of(node)})
			takes(t, e, ballot, from(0, n), none)
			takes(t, e, ballot+n, from(0, n), Result{Gen: ballot + n, Bits: from(0, n), Won: true})
		}
	}
}
