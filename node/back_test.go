package node

import (
	"testing"

	"annona/api"
	"annona/disk"
	"annona/token"
	"annona/vault"
)

// lines are nodes, each on a disk of its own, with all that each of them accepted, and each that was made ahead of it on that disk.
type lines struct {
	c     api.Conf
	time  int
	disks []*disk.Disk
	nodes []*Node
	last  []token.Place // what was accepted last
	was   []vault.State // the state behind the last act at which it went on
	net   []api.Frame
	count int
}

func linesOf(t *testing.T, c api.Conf) *lines {
	t.Helper()
	l := &lines{c: c, time: start, last: make([]token.Place, c.N), was: make([]vault.State, c.N)}
	for i := range c.N {
		l.disks = append(l.disks, diskOf(t, roomy))
		l.nodes = append(l.nodes, made(t, c, i, l.disks[i], start))
	}
	return l
}

// look looks at what a call did to a node's token, and to its state.
func (l *lines) look(t *testing.T, id int, had api.Token, promised int) {
	t.Helper()
	n := l.nodes[id]
	if n.Halted() {
		return
	}
	if !vault.Rises(l.was[id], n.State()) || n.Promised() < promised {
		t.Fatalf("node %d: %+v, promised %d, behind %+v, %d", id, n.State(), n.Promised(), l.was[id], promised)
	}
	l.was[id] = n.State()
	got, has := n.Token()
	if !has || sameToken(got, had) {
		return
	}
	at := token.Place{Gen: got.Gen, Hop: got.Hop}
	if !newer(at, l.last[id]) || got.Gen < promised {
		t.Fatalf("node %d accepted %v behind %v, %d was promised", id, at, l.last[id], promised)
	}
	l.last[id] = at
	l.count++
}

// act is a drawn act of a node.
func (l *lines) act(t *testing.T, x *uint64) {
	t.Helper()
	id := draw(x, l.c.N)
	n := l.nodes[id]
	had, _ := n.Token()
	promised := n.Promised()
	var told []api.Frame
	switch k := draw(x, 40); {
	case k < 10:
		told, _, _ = n.Step(l.time)
	case k < 16 && len(l.net) > 0:
		f := l.net[draw(x, len(l.net))]
		f.To = id
		told, _, _ = n.Receive(f, l.time)
	case k < 34:
		told, _, _ = n.Receive(l.frame(x, id), l.time)
	case k < 36:
		l.time += draw(x, 30)
		l.time -= draw(x, 9)
	case k < 37:
		n.Break()
	case k < 38 || n.Halted():
		n.Crash()
		l.disks[id].Crash(draw(x, 40))
		l.nodes[id] = made(t, l.c, id, l.disks[id], l.time)
		l.look(t, id, api.Token{}, l.was[id].Promised)
		return
	}
	for _, f := range told {
		if f.Kind != api.Beat {
			l.net = append(l.net, f)
		}
	}
	l.net = l.net[max(0, len(l.net)-20):]
	l.look(t, id, had, promised)
}

// frame is one that anybody may have sent: with few generations and hops, near what the node has.
func (l *lines) frame(x *uint64, id int) api.Frame {
	n := l.nodes[id]
	gen := max(1, n.Promised()+draw(x, 4)-2)
	if draw(x, 3) == 0 {
		gen = max(1, n.Standing())
	}
	if draw(x, 2) == 0 {
		return electOf(draw(x, l.c.N), id, gen, uint64(draw(x, 8)))
	}
	t := api.Token{Gen: gen, Hop: draw(x, 3)}
	if draw(x, 3) == 0 {
		t.Hop = max(0, n.State().Hop+draw(x, 4)-2)
	}
	for range l.c.N {
		t.Stamps = append(t.Stamps, draw(x, 90)-1)
	}
	return passOf(draw(x, l.c.N), id, t)
}

// TestNoWayBack: P19.3, over drawn acts, with frames that anybody sent, breaks, crashes, and new nodes on what is left of the disks: each token accepted is newer than all ahead, and not below what was promised; the state never goes back.
func TestNoWayBack(t *testing.T) {
	x := uint64(193)
	accepted := 0
	for range 400 {
		c := drawnConf(&x, 1+draw(&x, 3))
		c.Loss, c.TTL, c.Valid = 1+draw(&x, 20), 1+draw(&x, 3), 1+draw(&x, 3)
		l := linesOf(t, c)
		for range 600 {
			l.act(t, &x)
		}
		accepted += l.count
	}
	if accepted < 10000 {
		t.Errorf("only %d were accepted", accepted)
	}
}

// TestAllPlaces: P19.3, of all small promises and places that a node has kept, and all small places of a token that comes.
func TestAllPlaces(t *testing.T) {
	for promised := range 4 {
		for gen := range 4 {
			for hop := range 3 {
				for comes := 1; comes < 5; comes++ {
					for with := range 4 {
						n, _ := onDisk(t, state(promised, gen, hop, 0))
						n.Receive(passOf(0, here, tokenOf(comes, with)), start)
						want := comes >= promised && newer(token.Place{Gen: comes, Hop: with}, token.Place{Gen: gen, Hop: hop})
						if _, got := n.Token(); got != want {
							t.Errorf("promised %d, accepted %d, %d: %d, %d is accepted: %t", promised, gen, hop, comes, with, got)
						}
					}
				}
			}
		}
	}
}

// TestNoWayBackBehindACrash: P19.3, a node that is made anew on what is safe of its disk takes no token that the one ahead of it accepted.
func TestNoWayBackBehindACrash(t *testing.T) {
	n, d := onDisk(t)
	for _, at := range []token.Place{{Gen: 3, Hop: 1}, {Gen: 3, Hop: 2}, {Gen: 3, Hop: 7}, {Gen: 5, Hop: 0}} {
		given(t, n, at.Gen, at.Hop, start)
		n.Crash()
		d.Crash(0)
		n = made(t, theConf(), here, d, start)
		receives(t, n, passOf(0, here, tokenOf(at.Gen, at.Hop)), start, sends(ackOf(here, 0, at.Gen, at.Hop)))
		hasNone(t, n)
	}
}
