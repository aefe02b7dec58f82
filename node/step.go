package node

import (
	"annona/api"
	"annona/clock"
	"annona/conf"
	"annona/token"
)

// points are what a step does at a reading, in order, as far as it doesn't halt.
func points() []func(*Node, int) outcome {
	return []func(*Node, int) outcome{(*Node).greet, (*Node).handOn, (*Node).resend, (*Node).renew}
}

// greet answers who waited long enough, and sends a beat to each other node.
func (n *Node) greet(now int) outcome {
	o := outcome{answers: n.edge.Expire(now)}
	for i := range n.conf.N {
		if i != n.id {
			o.frames = append(o.frames, n.addressed(api.Frame{Kind: api.Beat}, i))
		}
	}
	return o
}

// handOn hands its token on to the next node that seems to be alive; the node takes it itself, if there is no other one.
func (n *Node) handOn(now int) outcome {
	if !n.hasToken() {
		return outcome{}
	}
	t, err := token.Pass(n.token)
	n.token = api.Token{}
	if err != api.OK {
		return outcome{}
	}
	next := n.view.Next(now)
	if next == n.id {
		return outcome{answers: n.accept(t, now)}
	}
	// With an error, which only a token brings that nobody made, it is held by nobody, and is gone.
	n.relay.Hold(n.addressed(api.Frame{Token: t}, next))
	return outcome{}
}

// resend sends what the relay holds, till somebody answers that it came.
func (n *Node) resend(now int) outcome {
	f, held := n.relay.Held()
	if !held {
		return outcome{}
	}
	return outcome{frames: []api.Frame{f}}
}

// renew makes a new token, if its ballot is won, and the quarantine has passed, or stands, if it has seen nothing for long.
func (n *Node) renew(now int) outcome {
	switch {
	case n.won > 0:
		return n.issue(now)
	case !n.hasToken() && clock.Passed(n.seen, now, n.conf.Loss):
		return n.stand(now)
	}
	return outcome{}
}

// issue accepts a fresh token of the ballot that is won, if the quarantine has passed.
func (n *Node) issue(now int) outcome {
	if !clock.Passed(n.since, now, conf.Quarantine(n.conf)) {
		return outcome{}
	}
	// This can't fail: a ballot may be a generation, and the reading a stamp.
	t, _ := token.Fresh(n.won, n.conf.N, n.id, now)
	o := outcome{answers: n.accept(t, now)}
	n.won = 0
	return o
}

// stand lets the election stand; it halts, if there is no greater ballot.
func (n *Node) stand(now int) outcome {
	r, err := n.Stand()
	if err != api.OK {
		return outcome{answers: n.halt()}
	}
	return n.follow(r, now)
}
