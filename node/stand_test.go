package node

import (
	"testing"

	"annona/api"
	"annona/vault"
)

// TestStand: a node without token, and ballot, stands, as soon as Loss has passed since something was seen: its ballot goes to the next one that seems to be alive, behind the beats.
func TestStand(t *testing.T) {
	for _, x := range []struct {
		heard []int
		to    int
	}{{[]int{0}, 0}, {[]int{2}, 2}, {[]int{0, 2}, 2}} {
		for _, late := range []int{0, 1, 7} {
			n, d := onDisk(t, state(5, 4, 9, 1))
			alive(t, n, start+loss, x.heard...)
			steps(t, n, start+loss-1, sends(beats()...))
			hasState(t, n, state(5, 4, 9, 1))
			steps(t, n, start+loss+late, sends(beats(electOf(here, x.to, 7, 2))...))
			hasState(t, n, state(7, 4, 9, 2))
			isOn(t, d, state(5, 4, 9, 1), state(7, 4, 9, 2))
			hasWon(t, n, 0)
			if n.Standing() != 7 {
				t.Errorf("it stands with %d", n.Standing())
			}
		}
	}
}

// TestStandAlone: if no other one is alive, its ballot goes to nobody; it is kept, and it stands.
func TestStandAlone(t *testing.T) {
	n, d := onDisk(t)
	steps(t, n, start+loss, sends(beats()...))
	isOn(t, d, state(4, 0, 0, 1))
	if n.Standing() != 4 || n.Won() != 0 {
		t.Errorf("it stands with %d, and has won %d", n.Standing(), n.Won())
	}
}

// TestStandAgain: standing is something that is seen: so long behind it the node stands again, with its next ballot.
func TestStandAgain(t *testing.T) {
	n, d := onDisk(t)
	at := start + loss + 3
	steps(t, n, at, sends(beats()...))
	for i := 2; i < 6; i++ {
		alive(t, n, at+loss, 0)
		steps(t, n, at+loss-1, sends(beats()...))
		at += loss
		steps(t, n, at, sends(beats(electOf(here, 0, 3*i+1, 2))...))
	}
	isOn(t, d, state(4, 0, 0, 1), state(7, 0, 0, 2), state(10, 0, 0, 3), state(13, 0, 0, 4), state(16, 0, 0, 5))
	// Bits of an earlier one come in vain.
	receives(t, n, electOf(0, here, 13, 7), at, said{})
	hasWon(t, n, 0)
	receives(t, n, electOf(0, here, 16, 5), at, said{})
	hasWon(t, n, 16)
}

// TestStandAtALesserReading: it is so long since something was seen last, whatever was seen at greater readings ahead.
func TestStandAtALesserReading(t *testing.T) {
	n := theNode(t)
	receives(t, n, electOf(0, here, 5, 1), start+50, sends(electOf(here, 0, 5, 3)))
	receives(t, n, electOf(0, here, 6, 1), start-50, sends(electOf(here, 2, 6, 3)))
	steps(t, n, start-50+loss-1, sends(beats()...))
	steps(t, n, start-50+loss, sends(beats(electOf(here, 2, 7, 2))...))
}

// TestStandOfOne: a ring of one wins at once, since now, and sends nothing.
func TestStandOfOne(t *testing.T) {
	d := diskOf(t, roomy, state(8, 3, 3, 2))
	n := made(t, sized(1), 0, d, start)
	steps(t, n, start+loss-1, said{})
	hasWon(t, n, 0)
	steps(t, n, start+loss+2, said{})
	hasWon(t, n, 9)
	isOn(t, d, state(8, 3, 3, 2), state(9, 3, 3, 9))
	steps(t, n, start+loss+2+quarantine-1, said{})
	hasNone(t, n)
	steps(t, n, start+loss+2+quarantine, said{})
	hasToken(t, n, api.Token{Gen: 9, Stamps: []int{start + loss + 2 + quarantine}, Table: api.Table{Start: start + loss + 2 + quarantine}})
	isOn(t, d, state(8, 3, 3, 2), state(9, 3, 3, 9), state(9, 9, 0, 9))
}

// TestStandWithAToken: a node doesn't stand while it has a token: alone it has it again each time.
func TestStandWithAToken(t *testing.T) {
	n, d := onDisk(t)
	given(t, n, 5, 1, start+1)
	steps(t, n, start+1+50*loss, sends(beats()...))
	hasToken(t, n, stamped(tokenOf(5, 2), here, start+1+50*loss))
	isOn(t, d, state(5, 5, 1, 0), state(5, 5, 2, 0))
}

// TestStandBehindHandingOn: who hands its token on has none: if it had it for so long, it stands in the same step, and what it holds is sent ahead, and then dropped, as older.
func TestStandBehindHandingOn(t *testing.T) {
	n, _ := onDisk(t)
	given(t, n, 5, 1, start+1)
	alive(t, n, start+1+loss, 0)
	f := passOf(here, 0, stamped(tokenOf(5, 2), here, start+1))
	steps(t, n, start+1+loss, sends(beats(f, electOf(here, 0, 7, 2))...))
	steps(t, n, start+1+loss, sends(beats()...))
	hasState(t, n, state(7, 5, 1, 2))
}

// TestStandDropsOlder: what the relay holds is dropped, as soon as the node stands.
func TestStandDropsOlder(t *testing.T) {
	n, f := onItsWay(t)
	steps(t, n, start+loss-1, sends(beats(f)...))
	steps(t, n, start+loss, sends(beats(f)...))
	steps(t, n, start+loss, sends(beats()...))
	if n.Standing() != 4 {
		t.Errorf("it stands with %d", n.Standing())
	}
}

// TestStandOfNoBallot: if no greater ballot may be, the node halts, with nothing kept; the greatest one may be.
func TestStandOfNoBallot(t *testing.T) {
	// Of three, 2^40 is node 1's: 3 times 366503875925, and 1.
	for _, promised := range []int{most, most - 1, most - 3, most - 4} {
		n, d := onDisk(t, state(promised, 0, 0, 1))
		waits(t, n, 1, 5, 1, start)
		if promised == most {
			steps(t, n, start+loss, halts(restarted(1)))
			isOver(t, n)
			hasState(t, n, state(promised, 0, 0, 1))
			isOn(t, d, state(promised, 0, 0, 1))
			continue
		}
		want := most
		if promised == most-4 {
			want = most - 3
		}
		steps(t, n, start+loss, sends(beats()...))
		hasState(t, n, state(want, 0, 0, want/3))
	}
	// Of another node the greatest one is less.
	n := made(t, theConf(), 0, diskOf(t, roomy, state(most-1, 0, 0, 1)), start)
	steps(t, n, start+loss, halts())
	isOver(t, n)
}

// TestStandBelowTheRound: a round that was kept is never less: a disk that has a greater one lets the node halt.
func TestStandBelowTheRound(t *testing.T) {
	n, d := onDisk(t, state(4, 0, 0, 9))
	steps(t, n, start+loss, halts())
	isOver(t, n)
	isOn(t, d, state(4, 0, 0, 9))
	if got := n.State(); got != (vault.State{Promised: 4, Round: 9}) {
		t.Errorf("the state is %v", got)
	}
}
