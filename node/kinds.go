package node

import (
	"annona/api"
	"annona/token"
)

// kinds are what frames do at a node, at a reading, by their kinds.
func kinds() map[api.Kind]func(*Node, api.Frame, int) outcome {
	return map[api.Kind]func(*Node, api.Frame, int) outcome{
		api.Pass:  (*Node).pass,
		api.Ack:   (*Node).ack,
		api.Elect: (*Node).elect,
		api.Beat:  (*Node).beat,
	}
}

// pass takes a token that is handed on.
func (n *Node) pass(f api.Frame, now int) outcome {
	t := f.Token
	switch {
	case len(t.Stamps) != n.conf.N || t.Gen < n.Promised():
		return outcome{}
	case token.Newer(token.At(t), n.accepted()):
		return outcome{answers: n.accept(t, now), frames: n.ackOf(f)}
	case t.Gen == n.accepted().Gen:
		// It was accepted, or is over; who sends it has not been told.
		return outcome{frames: n.ackOf(f)}
	}
	return outcome{}
}

// ackOf is the ack of a pass.
func (n *Node) ackOf(f api.Frame) []api.Frame {
	return []api.Frame{n.addressed(api.Frame{Kind: api.Ack, Gen: f.Token.Gen, Hop: f.Token.Hop}, f.From)}
}

// ack takes the news that a token came.
func (n *Node) ack(f api.Frame, now int) outcome {
	n.relay.Ack(f)
	return outcome{}
}

// elect takes a ballot.
func (n *Node) elect(f api.Frame, now int) outcome {
	r := n.Take(f.Gen, f.Bits)
	switch {
	case r.Won:
		n.win(r.Gen, now)
	case r.Send:
		if n.token.Gen < n.Promised() {
			n.token = api.Token{}
		}
		n.won = 0
		return n.follow(r, now)
	}
	return outcome{}
}

// beat takes a beat: that its sender is heard is all.
func (n *Node) beat(f api.Frame, now int) outcome {
	return outcome{}
}
