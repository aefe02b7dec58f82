package node

import (
	"testing"

	"annona/api"
)

// TestStepBeats: a beat goes to each other node, in order; of one node none.
func TestStepBeats(t *testing.T) {
	for _, size := range []int{1, 2, 3, 5, 64} {
		for _, id := range []int{0, size / 2, size - 1} {
			n := made(t, sized(size), id, diskOf(t, roomy), start)
			var want []api.Frame
			for i := range size {
				if i != id {
					want = append(want, beatOf(id, i))
				}
			}
			for _, now := range []int{start, start - 90, start + loss - 1} {
				steps(t, n, now, sends(want...))
			}
		}
	}
}

// TestStepExpires: who waited long enough is answered, as they came, ahead of whom the step's own visit serves.
func TestStepExpires(t *testing.T) {
	n := theNode(t)
	for i, wait := range []int{8, 5, 9, 5} {
		asks(t, n, api.Request{ID: i, Key: policy, Cost: 4, Wait: wait}, start, said{})
	}
	steps(t, n, start+4, sends(beats()...))
	steps(t, n, start+5, said{frames: beats(), answers: []api.Answer{expired(1), expired(3)}})
	// At 109 the token isn't valid any more; at 108 it is, and then nobody else is alive.
	receives(t, n, passOf(here, here, stamped(tokenOf(5, 1), 0, start+2)), start+9, sends(ackOf(here, here, 5, 1)))
	steps(t, n, start+8, said{frames: beats(), answers: []api.Answer{expired(0), granted(2, 5)}})
	steps(t, n, start+20, sends(beats()...))
}

// TestStepHandsOn: a token goes to the next one that seems to be alive, with one hop more, and the node has none; it is sent at that step already.
func TestStepHandsOn(t *testing.T) {
	for _, x := range []struct {
		heard []int
		to    int
	}{{[]int{0}, 0}, {[]int{2}, 2}, {[]int{0, 2}, 2}} {
		n, d := onDisk(t)
		given(t, n, 5, 7, start+1)
		alive(t, n, start+12, x.heard...)
		f := passOf(here, x.to, stamped(tokenOf(5, 8), here, start+1))
		steps(t, n, start+15, sends(beats(f)...))
		hasNone(t, n)
		hasState(t, n, state(5, 5, 7, 0))
		isOn(t, d, state(5, 5, 7, 0))
	}
	n := made(t, sized(5), 3, diskOf(t, roomy), start)
	l := api.Token{Gen: 5, Hop: 1, Stamps: []int{-1, -1, -1, -1, -1}}
	receives(t, n, passOf(0, 3, l), start+1, sends(ackOf(3, 0, 5, 1)))
	alive(t, n, start+12, 1, 2)
	l.Hop, l.Stamps[3] = 2, start+1
	steps(t, n, start+15, sends(beatOf(3, 0), beatOf(3, 1), beatOf(3, 2), beatOf(3, 4), passOf(3, 1, l)))
}

// TestStepAlone: if the next one is the node, the token is accepted at once, with one hop more, and kept: it has it again, and nothing is sent.
func TestStepAlone(t *testing.T) {
	n, d := onDisk(t)
	given(t, n, 5, 7, start+1)
	want := stamped(tokenOf(5, 7), here, start+1)
	for i, now := range []int{start + 9, start + 9, start + 40, start + 15} {
		steps(t, n, now, sends(beats()...))
		want.Hop, want.Stamps[here] = 8+i, now
		hasToken(t, n, want)
		hasState(t, n, state(5, 5, 8+i, 0))
	}
	isOn(t, d, state(5, 5, 7, 0), state(5, 5, 8, 0), state(5, 5, 9, 0), state(5, 5, 10, 0), state(5, 5, 11, 0))
	// It was seen at 115, so that it doesn't stand ahead of 135.
	receives(t, n, electOf(here, here, 6, 0), start+15, said{})
	steps(t, n, start+34, sends(beats()...))
	hasState(t, n, state(6, 5, 11, 0))
}

// TestStepOfOne: a ring of one has its token at each step, and serves who waits by it.
func TestStepOfOne(t *testing.T) {
	n := made(t, sized(1), 0, diskOf(t, roomy), start)
	receives(t, n, passOf(0, 0, api.Token{Gen: 5, Hop: 1, Stamps: []int{-1}, Table: api.Table{Start: start}}), start, sends(ackOf(0, 0, 5, 1)))
	waits(t, n, 1, 5, 2, start)
	waits(t, n, 2, 5, 7, start)
	waits(t, n, 3, 5, 1, start)
	steps(t, n, start+1, said{answers: []api.Answer{granted(1, 5)}})
	steps(t, n, start+2, said{})
	steps(t, n, start+3, said{})
	steps(t, n, start+4, said{})
	steps(t, n, start+5, said{answers: []api.Answer{granted(2, 5), granted(3, 5)}})
	if l, ok := n.Token(); !ok || l.Hop != 6 || l.Stamps[0] != start+5 {
		t.Errorf("the token is %v, %t", l, ok)
	}
}

// TestStepOfTheLastHop: a token whose hop can't grow is gone: it is neither sent nor accepted, and nothing is kept.
func TestStepOfTheLastHop(t *testing.T) {
	for _, now := range []int{start + 1, start + hear + 1} {
		n, d := onDisk(t)
		given(t, n, 5, most, start+1)
		steps(t, n, now, sends(beats()...))
		hasNone(t, n)
		isOn(t, d, state(5, 5, most, 0))
		steps(t, n, now+1, sends(beats()...))
	}
	n := theNode(t)
	given(t, n, 5, most-1, start+1)
	steps(t, n, start+1, sends(beats(passOf(here, 2, stamped(tokenOf(5, most), here, start+1)))...))
}

// TestStepIsAtItsReading: who is next, and what is stamped, is by the step's reading, not by an earlier one; also by a lesser one than ahead.
func TestStepIsAtItsReading(t *testing.T) {
	n := theNode(t)
	given(t, n, 5, 1, start+1)
	steps(t, n, start+30, sends(beats()...))
	hasToken(t, n, stamped(tokenOf(5, 2), here, start+30))
	f := passOf(here, 2, stamped(tokenOf(5, 3), here, start+30))
	steps(t, n, start+hear-1, sends(beats(f)...))
	steps(t, n, start+31, sends(beats(f)...))
}

// TestStepsWithoutAnything: nothing but beats come of steps at which nothing is held, had, or lost; nothing is kept by them.
func TestStepsWithoutAnything(t *testing.T) {
	n, d := onDisk(t, state(4, 3, 1, 1))
	was := looksOf(n)
	for now := range start + loss {
		steps(t, n, now, sends(beats()...))
	}
	if got := looksOf(n); !sameLooks(got, was) {
		t.Errorf("%+v, not %+v", got, was)
	}
	isOn(t, d, state(4, 3, 1, 1))
}

// TestStepOfTooMuch: a token whose row has more than may be, by what came back to it, can't be handed on, and is gone; alone the node has it, as it is.
func TestStepOfTooMuch(t *testing.T) {
	for _, at := range []int{start + 2, start + hear} {
		c := theConf()
		c.Rates = []api.Rate{{R: 0, B: span}}
		n := made(t, c, here, diskOf(t, roomy), start)
		waits(t, n, 1, 5, span, start)
		l := with(stamped(tokenOf(5, 1), 0, start+2), rowOf(5, span, start))
		receives(t, n, passOf(here, here, l), start+1, said{frames: []api.Frame{ackOf(here, here, 5, 1)}, answers: []api.Answer{granted(1, 5)}})
		for hop := 2; hop <= 4; hop++ {
			l = with(stamped(tokenOf(5, hop), 0, start+2), rowOf(5, span, start, api.Lease{Node: here, Amount: 5}))
			receives(t, n, passOf(here, here, l), start+1, sends(ackOf(here, here, 5, hop)))
		}
		was, _ := n.Token()
		if got := was.Table.Rows[0].Avail; got > span {
			t.Fatalf("%v", was)
		}
		l = with(stamped(tokenOf(5, 5), 0, start+2), rowOf(5, span, start, api.Lease{Node: here, Amount: span}))
		receives(t, n, passOf(here, here, l), start+1, sends(ackOf(here, here, 5, 5)))
		was, _ = n.Token()
		if got := was.Table.Rows[0].Avail; got <= span {
			t.Fatalf("%v", was)
		}
		steps(t, n, at, sends(beats()...))
		if at == start+2 {
			hasNone(t, n)
			continue
		}
		was.Hop++
		hasToken(t, n, was)
	}
}
