package node

import (
	"math"
	"testing"

	"annona/api"
	"annona/disk"
)

// standing is a node that stands with ballot 4 since 120, and has its own bit; node 2 was heard then.
func standing(t *testing.T) (*Node, *disk.Disk) {
	t.Helper()
	n, d := onDisk(t)
	alive(t, n, start+loss, 2)
	steps(t, n, start+loss, sends(beats(electOf(here, 2, 4, 2))...))
	return n, d
}

// nothingOf holds that nothing comes of a ballot, but that its sender is heard.
func nothingOf(t *testing.T, n *Node, d *disk.Disk, f api.Frame, now int) {
	t.Helper()
	was, file := looksOf(n), d.File()
	receives(t, n, f, now, said{})
	if got := looksOf(n); !sameLooks(got, was) || len(d.File()) != len(file) {
		t.Errorf("%+v: it is %+v, not %+v, with %d bytes", f, got, was, len(d.File()))
	}
}

// TestElectOfNothing: a ballot below what is promised, and just that of a node that doesn't stand, are nothing: nothing is seen, kept, or sent.
func TestElectOfNothing(t *testing.T) {
	n, d := onDisk(t, state(8, 8, 1, 2))
	given(t, n, 8, 2, start)
	for gen := 1; gen <= 8; gen++ {
		for _, bits := range []uint64{0, 4, 7, math.MaxUint64} {
			nothingOf(t, n, d, electOf(0, here, gen, bits), start+5)
		}
	}
	hasToken(t, n, stamped(tokenOf(8, 2), here, start))
	isOn(t, d, state(8, 8, 1, 2), state(8, 8, 2, 2))
	receives(t, n, electOf(2, here, 9, 0), start+1, sends(electOf(here, 2, 9, 2)))
	alive(t, n, start+20, 2)
	nothingOf(t, n, d, electOf(0, here, 8, 7), start+20)
	nothingOf(t, n, d, electOf(0, here, 9, 7), start+20)
	steps(t, n, start+20, sends(beats()...))
	steps(t, n, start+21, sends(beats(electOf(here, 2, 10, 2))...))
}

// TestElectGoesOn: a ballot above what is promised is promised, and kept with the place that was accepted; it goes to the next one that seems to be alive, with the node's own bit, too.
func TestElectGoesOn(t *testing.T) {
	for _, bits := range []uint64{0, 1, 2, 4, 1 << 63, math.MaxUint64} {
		for _, gen := range []int{9, 10, 11, most} {
			n, d := onDisk(t, state(8, 6, 3, 2))
			receives(t, n, electOf(0, here, gen, bits), start+5, sends(electOf(here, 2, gen, bits|2)))
			hasState(t, n, state(gen, 6, 3, 2))
			isOn(t, d, state(8, 6, 3, 2), state(gen, 6, 3, 2))
			if n.Standing() != 0 {
				t.Errorf("it stands with %d", n.Standing())
			}
			// It comes again, from whom it was sent to.
			nothingOf(t, n, d, electOf(2, here, gen, bits|6), start+6)
		}
	}
}

// TestElectGoesToTheNext: which one that is, by who was heard; its sender is heard ahead. It goes to nobody, if no other one is alive.
func TestElectGoesToTheNext(t *testing.T) {
	for _, x := range []struct {
		from  int
		heard []int
		to    int
	}{{0, nil, 0}, {0, []int{2}, 2}, {2, nil, 2}, {2, []int{0}, 2}, {here, []int{0}, 0}, {here, nil, here}} {
		n, d := onDisk(t)
		alive(t, n, start+15, x.heard...)
		want := sends(electOf(here, x.to, 5, 3))
		if x.to == here {
			want = said{}
		}
		receives(t, n, electOf(x.from, here, 5, 1), start+16, want)
		isOn(t, d, state(5, 0, 0, 0))
	}
	one := made(t, sized(1), 0, diskOf(t, roomy), start)
	receives(t, one, electOf(0, 0, 5, 1), start, said{})
	hasState(t, one, state(5, 0, 0, 0))
	five := made(t, sized(5), 3, diskOf(t, roomy), start)
	alive(t, five, start+15, 1, 2)
	receives(t, five, electOf(2, 3, 5, 1), start+16, sends(electOf(3, 1, 5, 9)))
}

// TestElectAndTheToken: by a ballot that is promised a token of a lesser generation is gone; by one that is not, and one of the same generation, it stays.
func TestElectAndTheToken(t *testing.T) {
	for gen := 1; gen <= 12; gen++ {
		n := theNode(t)
		given(t, n, 8, 2, start)
		n.Receive(electOf(0, here, gen, 1), start+1)
		if gen > 8 {
			hasNone(t, n)
			continue
		}
		hasToken(t, n, stamped(tokenOf(8, 2), here, start))
	}
}

// TestElectDropsOlder: what the relay holds is dropped, if it is older than that ballot with hop 0; by a ballot that is not promised it stays.
func TestElectDropsOlder(t *testing.T) {
	for gen := 1; gen <= 5; gen++ {
		n, f := onItsWay(t)
		n.Receive(electOf(0, here, gen, 1), start+1)
		want := beats(f)
		if gen > 3 {
			want = beats()
		}
		steps(t, n, start+2, sends(want...))
	}
	// One of the ballot's own generation is not older, though its hop is no more than 0: who promised less accepted it ahead.
	n := made(t, theConf(), here, diskOf(t, roomy), start)
	given(t, n, 5, 0, start)
	f := passOf(here, 2, stamped(tokenOf(5, 1), here, start))
	steps(t, n, start, sends(beats(f)...))
	receives(t, n, electOf(0, here, 5, 1), start, said{})
	steps(t, n, start, sends(beats(f)...))
}

// TestElectIsSeen: something is seen by a ballot that is promised, also at a lesser reading than ahead.
func TestElectIsSeen(t *testing.T) {
	for _, at := range []int{start + 12, start, start - 50, 0} {
		n := theNode(t)
		given(t, n, 3, 1, start+7)
		n.Receive(electOf(0, here, 4, 1), at)
		alive(t, n, start+2*loss, 2)
		steps(t, n, at+loss-1, sends(beats()...))
		steps(t, n, at+loss, sends(beats(electOf(here, 2, 7, 2))...))
	}
}

// TestElectOfItsOwn: a ballot of its own that comes again with bits that make no majority is nothing more; with such it is won, and nothing is kept, sent or seen.
func TestElectOfItsOwn(t *testing.T) {
	n, d := standing(t)
	for _, bits := range []uint64{0, 2, 8, 1 << 62, math.MaxUint64 &^ 7} {
		nothingOf(t, n, d, electOf(0, here, 4, bits), start+21)
	}
	if n.Standing() != 4 {
		t.Errorf("it stands with %d", n.Standing())
	}
	receives(t, n, electOf(0, here, 4, 1), start+22, said{})
	hasWon(t, n, 4)
	hasState(t, n, state(4, 0, 0, 1))
	isOn(t, d, state(4, 0, 0, 1))
	nothingOf(t, n, d, electOf(0, here, 4, 7), start+24)
	// It is won since 122.
	steps(t, n, start+22+quarantine-1, sends(beats()...))
	hasNone(t, n)
	steps(t, n, start+22+quarantine, sends(beats()...))
	if l, ok := n.Token(); !ok || l.Gen != 4 {
		t.Errorf("the token is %v, %t", l, ok)
	}
}

// TestElectOfAllBits: each set of nodes with which it wins, and each with which it doesn't, brought at once, or one behind the other.
func TestElectOfAllBits(t *testing.T) {
	for bits := range uint64(16) {
		for more := range uint64(16) {
			n, _ := standing(t)
			won := 0
			for _, s := range []uint64{bits, more} {
				receives(t, n, electOf(2, here, 4, s), start+21, said{})
				if s&5 != 0 {
					won = 4
				}
				hasWon(t, n, won)
			}
		}
	}
}

// TestElectAboveItsOwn: who stands, or has won, and gets a greater ballot, stands no more, and has won none; its own one comes in vain.
func TestElectAboveItsOwn(t *testing.T) {
	for _, wins := range []bool{false, true} {
		n, d := standing(t)
		if wins {
			receives(t, n, electOf(2, here, 4, 6), start+21, said{})
			hasWon(t, n, 4)
		}
		receives(t, n, electOf(0, here, 5, 1), start+22, sends(electOf(here, 2, 5, 3)))
		hasWon(t, n, 0)
		nothingOf(t, n, d, electOf(0, here, 4, 7), start+23)
		isOn(t, d, state(4, 0, 0, 1), state(5, 0, 0, 1))
		for _, now := range []int{start + 22 + quarantine, start + 22 + loss - 1} {
			steps(t, n, now, sends(beats()...))
			hasNone(t, n)
		}
	}
}

// TestElectBelowItsOwn: by a lesser ballot, and by the one that is won, a ballot that is won stays.
func TestElectBelowItsOwn(t *testing.T) {
	n, d := standing(t)
	receives(t, n, electOf(2, here, 4, 6), start+21, said{})
	for gen := 1; gen <= 4; gen++ {
		nothingOf(t, n, d, electOf(0, here, gen, 7), start+30)
		hasWon(t, n, 4)
	}
	steps(t, n, start+21+quarantine, sends(beats()...))
	if _, ok := n.Token(); !ok {
		t.Error("it has no token")
	}
}

// TestPassAndTheBallot: a ballot that is won below the generation of what is accepted is none; one of the same stays, and what is not accepted leaves it.
func TestPassAndTheBallot(t *testing.T) {
	for _, x := range []struct{ gen, hop, won int }{{3, 9, 4}, {4, 1, 4}, {4, 0, 4}, {5, 0, 0}, {6, 7, 0}} {
		n, _ := standing(t)
		receives(t, n, electOf(2, here, 4, 6), start+21, said{})
		n.Receive(passOf(0, here, tokenOf(x.gen, x.hop)), start+22)
		hasWon(t, n, x.won)
		if _, ok := n.Token(); ok != (x.gen > 3) {
			t.Errorf("%v: a token is there: %t", x, ok)
		}
	}
}

// TestPassAndStanding: who stands, and accepts a token of a greater generation, stands no more; one of its own ballot's leaves it standing.
func TestPassAndStanding(t *testing.T) {
	n, _ := standing(t)
	given(t, n, 4, 1, start+21)
	if n.Standing() != 4 {
		t.Errorf("it stands with %d", n.Standing())
	}
	given(t, n, 6, 1, start+21)
	if n.Standing() != 0 {
		t.Errorf("it stands with %d", n.Standing())
	}
	receives(t, n, electOf(0, here, 4, 7), start+22, said{})
	hasWon(t, n, 0)
}
