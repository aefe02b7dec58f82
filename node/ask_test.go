package node

import (
	"slices"
	"testing"

	"annona/api"
	"annona/edge"
)

// TestAsk: G1, a request is answered as an edge answers it, at any reading; nothing else comes of it.
func TestAsk(t *testing.T) {
	l := []api.Request{
		request(1, 5, 4), request(1, 5, 4), request(2, 5, 10), request(3, 9*policy, 1), request(4, 5, 0), {ID: 5, Key: 6, Cost: 1},
		request(6, policy, 100), request(7, -1, 3), {ID: 8, Key: 5, Cost: 1, Class: 3, Wait: 1}, {ID: 9, Key: 5, Cost: 1, Wait: most + 1},
		request(10, 5, 9), request(11, 5, 9), request(12, 5, 9), request(-13, 5, 9),
	}
	for _, now := range append(edges(), start) {
		n := theNode(t)
		e, _ := edge.New(theConf())
		was := looksOf(n)
		for _, r := range l {
			asks(t, n, r, now, said{answers: e.Ask(r, now)})
		}
		was.items = e.Waiting()
		if got := looksOf(n); !sameLooks(got, was) {
			t.Errorf("at %d: %+v, not %+v", now, got, was)
		}
	}
}

// TestAskOfALease: G1, what was granted is spent at once, ahead of until when; its generation is told.
func TestAskOfALease(t *testing.T) {
	n := leased(t, 4)
	asks(t, n, request(2, 5, 3), start+2, said{answers: []api.Answer{granted(2, 5)}})
	asks(t, n, api.Request{ID: 3, Key: 5, Cost: 2}, start+2, said{answers: []api.Answer{{ID: 3, Reason: api.NoCredit}}})
	asks(t, n, api.Request{ID: 4, Key: 5, Cost: 1}, start+3, said{answers: []api.Answer{{ID: 4, Reason: api.NoCredit}}})
	asks(t, n, api.Request{ID: 5, Key: 5, Cost: 1}, start+2, said{answers: []api.Answer{granted(5, 5)}})
}

// leased is a node that has a token of generation 5, by which it has a lease of so much, till 103, nothing of it spent: all whom it was granted for went ahead.
func leased(t *testing.T, n int) *Node {
	t.Helper()
	x := theNode(t)
	waits(t, x, 1, 5, n, start-60)
	l := with(stamped(tokenOf(5, 1), 0, start), rowOf(5, 9, start))
	receives(t, x, passOf(0, here, l), start, said{frames: []api.Frame{ackOf(here, 0, 5, 1)}, answers: []api.Answer{granted(1, 5)}})
	// The visit behind it brings back what was spent, and lends as much again, by the estimate.
	l = with(stamped(stamped(tokenOf(5, 2), 0, start), here, start), rowOf(5, 9-n, start, api.Lease{Node: here, Amount: n}))
	receives(t, x, passOf(0, here, l), start, sends(ackOf(here, 0, 5, 2)))
	if got := x.Edge().Left(5, start); got != min(n, 9-n) {
		t.Fatalf("the lease has %d", got)
	}
	return x
}

// TestEdgeIsTheThingItself: G2, Edge is the node's edge: what is asked is seen there, and it is the same one each time, also behind its end.
func TestEdgeIsTheThingItself(t *testing.T) {
	n := theNode(t)
	e := n.Edge()
	waits(t, n, 1, 5, 4, start)
	waits(t, n, 2, policy, 4, start)
	if len(e.Waiting()) != 2 || n.Edge() != e {
		t.Errorf("%v wait", e.Waiting())
	}
	if got := n.Crash(); !slices.Equal(got, []api.Answer{restarted(1), restarted(2)}) {
		t.Errorf("Crash: %v", got)
	}
	if len(e.Waiting()) != 0 || n.Edge() != e {
		t.Errorf("behind it %v wait", e.Waiting())
	}
}
