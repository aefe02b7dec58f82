package node

import (
	"testing"

	"annona/api"
	"annona/disk"
)

// winner is a node that has won ballot 4 since that reading; nobody else is alive long behind it.
func winner(t *testing.T, since int) (*Node, *disk.Disk) {
	t.Helper()
	n, d := standing(t)
	receives(t, n, electOf(2, here, 4, 6), since, said{})
	hasWon(t, n, 4)
	return n, d
}

// freshOf is the token that node 1 of three makes at a reading.
func freshOf(gen, now int) api.Token {
	return api.Token{Gen: gen, Stamps: []int{-1, now, -1}, Table: api.Table{Start: now}}
}

// TestQuarantine: one tick ahead of the quarantine nothing comes of a ballot that is won, at it a fresh token is accepted, kept, and the ballot is none; behind it too, if no step was at it.
func TestQuarantine(t *testing.T) {
	for _, since := range []int{start + loss, start, 0, start + 90} {
		for _, late := range []int{0, 1, 50, end - 1 - quarantine - since} {
			n, d := winner(t, since)
			for _, early := range []int{since + quarantine - 1, since, 0} {
				steps(t, n, early, sends(beats()...))
				hasNone(t, n)
				hasWon(t, n, 4)
			}
			at := since + quarantine + late
			steps(t, n, at, sends(beats()...))
			hasToken(t, n, freshOf(4, at))
			hasWon(t, n, 0)
			hasState(t, n, state(4, 4, 0, 1))
			isOn(t, d, state(4, 0, 0, 1), state(4, 4, 0, 1))
		}
	}
}

// TestQuarantineOfOthers: it is Valid, TTL and four times Skew.
func TestQuarantineOfOthers(t *testing.T) {
	for _, x := range []struct{ skew, ttl, valid, want int }{{4, 3, 6, 25}, {0, 1, 1, 2}, {0, 5, 1, 6}, {7, 1, 1, 30}, {span, span, span, 6 * span}} {
		c := sized(1)
		c.Skew, c.TTL, c.Valid = x.skew, x.ttl, x.valid
		n := made(t, c, 0, diskOf(t, roomy), start)
		steps(t, n, start+loss, said{})
		hasWon(t, n, 1)
		steps(t, n, start+loss+x.want-1, said{})
		hasNone(t, n)
		steps(t, n, start+loss+x.want, said{})
		hasToken(t, n, api.Token{Gen: 1, Stamps: []int{start + loss + x.want}, Table: api.Table{Start: start + loss + x.want}})
	}
}

// TestQuarantineAtTheEnd: since and the quarantine are numbers, of which none is above 2^62: so late it never passes.
func TestQuarantineAtTheEnd(t *testing.T) {
	n, _ := winner(t, end-quarantine)
	steps(t, n, end-1, sends(beats()...))
	hasWon(t, n, 4)
	n, _ = winner(t, end-quarantine-1)
	steps(t, n, end-1, sends(beats()...))
	hasWon(t, n, 0)
	hasToken(t, n, freshOf(4, end-1))
}

// TestFreshIsEmpty: the fresh token mints since it was made, so that it serves nobody then; at the next tick it has some for who waits, behind who waited too long.
func TestFreshIsEmpty(t *testing.T) {
	n := made(t, sized(1), 0, diskOf(t, roomy), start)
	steps(t, n, start+loss, said{})
	hasWon(t, n, 1)
	at := start + loss + quarantine
	asks(t, n, api.Request{ID: 1, Key: 5, Cost: 1, Wait: 6}, at-5, said{})
	asks(t, n, api.Request{ID: 2, Key: 5, Cost: 1, Wait: 5}, at-5, said{})
	steps(t, n, at, said{answers: []api.Answer{expired(2)}})
	waits(t, n, 3, 5, 1, at)
	steps(t, n, at+1, said{answers: []api.Answer{expired(1), granted(3, 1)}})
	steps(t, n, at+2, said{})
	if l, ok := n.Token(); !ok || l.Hop != 2 {
		t.Errorf("the token is %v, %t", l, ok)
	}
}

// TestFreshIsNotOfItsHolder: of three the fresh token serves nobody, since no majority has stamped it; the next step hands it on.
func TestFreshIsNotOfItsHolder(t *testing.T) {
	n, _ := winner(t, start+loss)
	waits(t, n, 1, 5, 1, start+loss)
	at := start + loss + quarantine
	steps(t, n, at, sends(beats()...))
	alive(t, n, at, 0)
	l := freshOf(4, at)
	l.Hop = 1
	steps(t, n, at+1, sends(beats(passOf(here, 0, l))...))
	hasNone(t, n)
}

// TestFreshIsSeen: something is seen by it: so long behind it the node stands.
func TestFreshIsSeen(t *testing.T) {
	n, _ := winner(t, start+loss)
	at := start + loss + quarantine
	steps(t, n, at, sends(beats()...))
	alive(t, n, at+loss, 2)
	l := freshOf(4, at)
	l.Hop = 1
	f := passOf(here, 2, l)
	steps(t, n, at+loss-1, sends(beats(f)...))
	steps(t, n, at+loss, sends(beats(f, electOf(here, 2, 7, 2))...))
	steps(t, n, at+loss, sends(beats()...))
}

// TestWonDoesNotStand: a node that has won doesn't stand, however long nothing is seen.
func TestWonDoesNotStand(t *testing.T) {
	n, d := winner(t, start+90)
	for _, now := range []int{start + loss + loss, start + 90, start + 90 + quarantine - 1} {
		steps(t, n, now, sends(beats()...))
		hasWon(t, n, 4)
	}
	isOn(t, d, state(4, 0, 0, 1))
}

// TestFreshBehindItsLike: a fresh token isn't newer, if one of its generation was accepted, which nobody made; so that it isn't accepted, and the node halts, and has won none.
func TestFreshBehindItsLike(t *testing.T) {
	for _, hop := range []int{0, 1, most} {
		n, d := winner(t, start+loss)
		waits(t, n, 1, 5, 1, start)
		given(t, n, 4, hop, start+21)
		hasWon(t, n, 4)
		receives(t, n, ackOf(0, here, 4, 0), start+21, said{})
		steps(t, n, start+loss+quarantine, halts(restarted(1)))
		hasWon(t, n, 0)
		isOver(t, n)
		if records := len(d.File()) / bytesOf; records > 3 || n.State().Gen != 4 || n.State().Hop < hop {
			t.Errorf("%d records, %v", records, n.State())
		}
	}
}
