package node

import (
	"annona/api"
	"annona/elect"
	"annona/token"
	"annona/vault"
	"annona/visit"
)

// hasToken tells whether it has a token.
func (n *Node) hasToken() bool {
	return n.token.Gen > 0
}

// accepted is the place of the token that it accepted last.
func (n *Node) accepted() token.Place {
	s := n.vault.State()
	return token.Place{Gen: s.Gen, Hop: s.Hop}
}

// keep puts what the node must not forget into the vault, and makes it safe; if it can't, it halts, and who waits is answered.
func (n *Node) keep(p token.Place) []api.Answer {
	err := n.vault.Put(vault.State{Promised: n.Promised(), Gen: p.Gen, Hop: p.Hop, Round: n.Round()})
	if err != api.OK || n.breaks {
		return n.halt()
	}
	n.vault.Sync()
	return nil
}

// halt stops it for good, and answers who waits.
func (n *Node) halt() []api.Answer {
	n.halted = true
	n.token = api.Token{}
	return n.edge.Crash()
}

// accept makes a token the node's, at a reading, and answers whom its visit serves.
func (n *Node) accept(t api.Token, now int) []api.Answer {
	p := token.At(t)
	if !token.Newer(p, n.accepted()) {
		// Only a fresh one comes so far, behind a token of its generation that nobody made. The vault refuses what is older; what is the same may not be accepted twice either.
		return n.halt()
	}
	n.Raise(t.Gen)
	n.relay.Drop(p)
	if n.won < t.Gen {
		n.won = 0
	}
	if answers := n.keep(p); n.halted {
		return answers
	}
	// With an error, which a row of more credit than may be brings, the token is as it was.
	visited, answers, _ := visit.Visit(t, n.edge, n.id, now, n.conf)
	n.token, n.seen = visited, now
	return answers
}

// follow is what comes of a ballot that was promised just now: it is kept, and is won, or goes on.
func (n *Node) follow(r elect.Result, now int) outcome {
	n.relay.Drop(token.Place{Gen: r.Gen})
	n.seen = now
	if answers := n.keep(n.accepted()); n.halted {
		return outcome{answers: answers}
	}
	if r.Won {
		n.win(r.Gen, now)
		return outcome{}
	}
	return n.toNext(api.Frame{Kind: api.Elect, Gen: r.Gen, Bits: r.Bits}, now)
}

// win makes a ballot the one that is won, since now.
func (n *Node) win(ballot, now int) {
	n.won, n.since = ballot, now
}

// toNext sends a frame to the next node that seems to be alive, if there is another one.
func (n *Node) toNext(f api.Frame, now int) outcome {
	next := n.view.Next(now)
	if next == n.id {
		return outcome{}
	}
	return outcome{frames: []api.Frame{n.addressed(f, next)}}
}

// addressed is a frame from the node to another one.
func (n *Node) addressed(f api.Frame, to int) api.Frame {
	f.From, f.To = n.id, to
	return f
}
