package node

import (
	"testing"

	"annona/api"
)

// TestAllAreHeard: whoever sends a frame that may be is heard, of each kind, also where nothing else comes of it: the next one is who was heard of late.
func TestAllAreHeard(t *testing.T) {
	late := []api.Frame{
		passOf(2, here, tokenOf(3, 1)), passOf(2, here, tokenOf(2, 1)), passOf(2, here, api.Token{Gen: 9, Stamps: []int{1}}),
		ackOf(2, here, 9, 9), electOf(2, here, 3, 4), electOf(2, here, 2, 4), beatOf(2, here),
	}
	for _, f := range late {
		for _, heard := range []struct{ at, next int }{{start + 12, here}, {start + 13, 2}, {start + 20, 2}, {end - 1, 2}} {
			n := theNode(t)
			given(t, n, 3, 1, start+1)
			n.Receive(f, heard.at)
			want := beats()
			if heard.next != here {
				want = beats(passOf(here, 2, stamped(tokenOf(3, 2), here, start+1)))
			}
			steps(t, n, start+20, sends(want...))
		}
	}
}

// TestHeardAtALesserReading: chapter 16, who is heard at a lesser reading than ahead stays alive as long.
func TestHeardAtALesserReading(t *testing.T) {
	n := theNode(t)
	given(t, n, 3, 1, start+1)
	alive(t, n, start+15, 2)
	alive(t, n, start+3, 2)
	steps(t, n, start+20, sends(beats(passOf(here, 2, stamped(tokenOf(3, 2), here, start+1)))...))
}

// TestBeat: a beat does nothing more: nothing is seen by it, and nothing is sent, or kept.
func TestBeat(t *testing.T) {
	n, d := onDisk(t, state(4, 3, 1, 1))
	was := looksOf(n)
	alive(t, n, start+19, 0, 2, 0, here)
	if got := looksOf(n); !sameLooks(got, was) {
		t.Errorf("%+v, not %+v", got, was)
	}
	isOn(t, d, state(4, 3, 1, 1))
	steps(t, n, start+loss, sends(beats(electOf(here, 2, 7, 2))...))
}

// onItsWay is a node whose relay holds a pass of generation 3 and hop 2 to node 2, which it accepted at 100.
func onItsWay(t *testing.T) (*Node, api.Frame) {
	t.Helper()
	n := theNode(t)
	given(t, n, 3, 1, start)
	f := passOf(here, 2, stamped(tokenOf(3, 2), here, start))
	steps(t, n, start, sends(beats(f)...))
	return n, f
}

// TestAck: the relay takes it, if it is the one that is asked for; then it is sent no more.
func TestAck(t *testing.T) {
	others := []api.Frame{
		ackOf(0, here, 3, 2), ackOf(here, here, 3, 2), ackOf(2, here, 3, 1), ackOf(2, here, 3, 3), ackOf(2, here, 2, 2), ackOf(2, here, 4, 2),
		beatOf(2, here), passOf(2, here, tokenOf(3, 1)), electOf(2, here, 3, 4),
	}
	n, f := onItsWay(t)
	for _, x := range others {
		n.Receive(x, start)
		steps(t, n, start+1, sends(beats(f)...))
		steps(t, n, start+1, sends(beats(f)...))
	}
	was := looksOf(n)
	receives(t, n, ackOf(2, here, 3, 2), start+1, said{})
	for now := start; now < start+loss; now++ {
		steps(t, n, now, sends(beats()...))
	}
	receives(t, n, ackOf(2, here, 3, 2), start+1, said{})
	if got := looksOf(n); !sameLooks(got, was) {
		t.Errorf("%+v, not %+v", got, was)
	}
	// An ack is nothing that is seen.
	receives(t, n, ackOf(2, here, 3, 2), start+19, said{})
	steps(t, n, start+loss, sends(beats(electOf(here, 2, 4, 2))...))
}

// TestSentTillTheAckComes: what the relay holds is sent at each step, behind the beats, to the same node, though that one is silent.
func TestSentTillTheAckComes(t *testing.T) {
	n, f := onItsWay(t)
	for now := start; now < start+loss; now++ {
		steps(t, n, now, sends(beats(f)...))
	}
	alive(t, n, start+19, 0)
	steps(t, n, start+19, sends(beats(f)...))
	receives(t, n, ackOf(2, here, 3, 2), start+19, said{})
	steps(t, n, start+19, sends(beats()...))
}

// TestPassOfOtherStamps: a token that has not as many stamps as the ring has nodes is nothing, however new.
func TestPassOfOtherStamps(t *testing.T) {
	for _, size := range []int{1, 2, 3, 64} {
		for _, stamps := range []int{1, size - 1, size + 1, 64} {
			if stamps == size || stamps < 1 || stamps > 64 {
				continue
			}
			d := diskOf(t, roomy, state(3, 3, 1, 1))
			n := made(t, sized(size), 0, d, start)
			for _, gen := range []int{2, 3, 4, most} {
				for _, hop := range []int{0, 1, 2} {
					receives(t, n, passOf(size-1, 0, api.Token{Gen: gen, Hop: hop, Stamps: make([]int, stamps)}), start+1, said{})
				}
			}
			hasNone(t, n)
			hasState(t, n, state(3, 3, 1, 1))
			isOn(t, d, state(3, 3, 1, 1))
		}
	}
}

// TestPassBelowThePromise: so is one of a generation below what is promised, also of the generation that was accepted.
func TestPassBelowThePromise(t *testing.T) {
	n, d := onDisk(t, state(8, 6, 3, 2))
	for gen := 1; gen < 8; gen++ {
		for _, hop := range []int{0, 2, 3, 4, most} {
			receives(t, n, passOf(0, here, tokenOf(gen, hop)), start+5, said{})
		}
	}
	hasNone(t, n)
	isOn(t, d, state(8, 6, 3, 2))
	// Nothing was seen.
	steps(t, n, start+loss, sends(beats()...))
	hasState(t, n, state(10, 6, 3, 3))
}

// TestPassThatIsNotNewer: of one whose place isn't newer than the one accepted comes nothing but an ack, and that only of the same generation.
func TestPassThatIsNotNewer(t *testing.T) {
	n, d := onDisk(t, state(4, 6, 3, 1))
	for _, from := range []int{0, 2, here} {
		for hop := range 4 {
			receives(t, n, passOf(from, here, tokenOf(6, hop)), start+5, sends(ackOf(here, from, 6, hop)))
			receives(t, n, passOf(from, here, tokenOf(5, hop)), start+5, said{})
			receives(t, n, passOf(from, here, tokenOf(4, hop+3)), start+5, said{})
		}
	}
	hasNone(t, n)
	hasState(t, n, state(4, 6, 3, 1))
	isOn(t, d, state(4, 6, 3, 1))
	steps(t, n, start+loss, sends(beats()...))
	hasState(t, n, state(7, 6, 3, 2))
}

// TestPassAgain: a token that comes twice is accepted once, and acked twice; the node keeps the one that it has, and nobody is answered again.
func TestPassAgain(t *testing.T) {
	n := theNode(t)
	waits(t, n, 1, 5, 2, start)
	l := with(stamped(tokenOf(5, 1), 0, start), rowOf(5, 9, start))
	receives(t, n, passOf(0, here, l), start, said{frames: []api.Frame{ackOf(here, 0, 5, 1)}, answers: []api.Answer{granted(1, 5)}})
	has, _ := n.Token()
	waits(t, n, 2, 5, 2, start)
	receives(t, n, passOf(0, here, l), start+1, sends(ackOf(here, 0, 5, 1)))
	receives(t, n, passOf(2, here, l), start+1, sends(ackOf(here, 2, 5, 1)))
	receives(t, n, passOf(0, here, tokenOf(5, 0)), start+1, sends(ackOf(here, 0, 5, 0)))
	hasToken(t, n, has)
}

// TestPassIsAccepted: a newer one is accepted: an ack goes to where it is from, it is kept, it visits, and is the node's.
func TestPassIsAccepted(t *testing.T) {
	for _, from := range []int{0, 2, here} {
		for _, x := range []struct{ gen, hop int }{{6, 4}, {6, most}, {7, 0}, {8, 2}, {most, 0}} {
			n, d := onDisk(t, state(5, 6, 3, 1))
			receives(t, n, passOf(from, here, tokenOf(x.gen, x.hop)), start+5, sends(ackOf(here, from, x.gen, x.hop)))
			hasToken(t, n, stamped(tokenOf(x.gen, x.hop), here, start+5))
			hasState(t, n, state(x.gen, x.gen, x.hop, 1))
			isOn(t, d, state(5, 6, 3, 1), state(x.gen, x.gen, x.hop, 1))
		}
	}
}

// TestPassOfThePromise: one of just the generation that is promised is accepted, and the promise stays.
func TestPassOfThePromise(t *testing.T) {
	n, d := onDisk(t, state(8, 6, 3, 2))
	given(t, n, 8, 0, start+5)
	hasState(t, n, state(8, 8, 0, 2))
	isOn(t, d, state(8, 6, 3, 2), state(8, 8, 0, 2))
	given(t, n, 8, 1, start+6)
	hasToken(t, n, stamped(tokenOf(8, 1), here, start+6))
	isOn(t, d, state(8, 6, 3, 2), state(8, 8, 0, 2), state(8, 8, 1, 2))
}

// TestPassVisits: what the visit tells is answered, and the token is the one behind it.
func TestPassVisits(t *testing.T) {
	n := theNode(t)
	waits(t, n, 1, 5, 2, start)
	waits(t, n, 2, 5, 3, start)
	waits(t, n, 3, 5, 4, start)
	l := with(stamped(tokenOf(5, 1), 2, start), rowOf(5, 3, start, api.Lease{Node: 0, Amount: 1}))
	receives(t, n, passOf(0, here, l), start+1, said{frames: []api.Frame{ackOf(here, 0, 5, 1)}, answers: []api.Answer{granted(1, 5), granted(2, 5)}})
	hasToken(t, n, with(stamped(stamped(tokenOf(5, 1), 2, start), here, start+1), rowOf(5, 0, start+1, api.Lease{Node: 0, Amount: 1}, api.Lease{Node: here, Amount: 5})))
	if n.Edge().Left(5, start+3) != 0 || n.Edge().Leases()[0].Until != start+4 {
		t.Errorf("the leases are %v", n.Edge().Leases())
	}
}

// TestPassIsSeen: what is accepted is seen: the node stands so long behind it, also if the reading is a lesser one than ahead.
func TestPassIsSeen(t *testing.T) {
	for _, at := range []int{start + 15, start, start - 15, 0} {
		n := theNode(t)
		given(t, n, 5, 1, start+18)
		given(t, n, 5, 2, at)
		alive(t, n, start+2*loss, 0, 2)
		f := passOf(here, 2, stamped(tokenOf(5, 3), here, at))
		steps(t, n, at+loss-1, sends(beats(f)...))
		receives(t, n, ackOf(2, here, 5, 3), at+loss-1, said{})
		steps(t, n, at+loss-1, sends(beats()...))
		steps(t, n, at+loss, sends(beats(electOf(here, 2, 7, 2))...))
	}
}

// TestPassDropsOlder: what the relay holds goes, if it is older than what is accepted; what is not stays.
func TestPassDropsOlder(t *testing.T) {
	for _, x := range []struct {
		gen, hop int
		stays    bool
	}{{3, 2, true}, {3, 3, false}, {4, 0, false}, {4, 9, false}} {
		n, f := onItsWay(t)
		given(t, n, x.gen, x.hop, start+1)
		l := stamped(tokenOf(x.gen, x.hop+1), here, start+1)
		want := passOf(here, 2, l)
		if x.stays {
			// No other one takes its place, and the token that should is gone.
			want = f
		}
		steps(t, n, start+2, sends(beats(want)...))
		hasNone(t, n)
		receives(t, n, ackOf(2, here, want.Token.Gen, want.Token.Hop), start+2, said{})
		steps(t, n, start+2, sends(beats()...))
	}
}
