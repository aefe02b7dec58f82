package node

import (
	"testing"

	"annona/api"
	"annona/disk"
	"annona/token"
	"annona/vault"
)

// safeOf is a disk that has just what is safe of another one.
func safeOf(t *testing.T, d *disk.Disk) *disk.Disk {
	t.Helper()
	return bytesOn(t, roomy, d.File()[:d.Safe()])
}

// hangs holds that what a frame tells doesn't go beyond what is safe: a ballot and a token's place were kept ahead.
func hangs(t *testing.T, f api.Frame, s vault.State) {
	t.Helper()
	at := token.Place{Gen: s.Gen, Hop: s.Hop}
	switch f.Kind {
	case api.Elect:
		if f.Gen > s.Promised {
			t.Fatalf("%+v is told, and %+v is safe", f, s)
		}
	case api.Ack:
		if newer(token.Place{Gen: f.Gen, Hop: f.Hop}, at) {
			t.Fatalf("%+v is told, and %+v is safe", f, s)
		}
	case api.Pass:
		// It was accepted with one hop less.
		if newer(token.Place{Gen: f.Token.Gen, Hop: f.Token.Hop - 1}, at) {
			t.Fatalf("%+v is told, and %+v is safe", f, s)
		}
	}
}

// kept holds P19.2 of a node that didn't halt, behind what it told.
func kept(t *testing.T, n *Node, d *disk.Disk, told []api.Frame) {
	t.Helper()
	if n.Halted() {
		if len(told) > 0 {
			t.Fatalf("it halted, and told %+v", told)
		}
		return
	}
	again := made(t, n.conf, n.id, safeOf(t, d), start)
	want := state(n.Promised(), n.State().Gen, n.State().Hop, n.Round())
	if again.State() != want || n.State() != want || again.Promised() != n.Promised() || again.Round() != n.Round() {
		t.Fatalf("of %+v there is %+v behind a crash", want, again.State())
	}
	if l, ok := n.Token(); ok && (l.Gen != want.Gen || l.Hop != want.Hop) {
		t.Fatalf("it has %v, and %+v is safe", l, want)
	}
	if won := n.Won(); won > want.Promised {
		t.Fatalf("%d is won, and %+v is safe", won, want)
	}
	for _, f := range told {
		hangs(t, f, want)
	}
}

// TestKeptAhead: P19.2, over drawn acts of nodes together, behind each one, of each node: what is safe on its disk is all that it promised, accepted, and its round; and no frame tells of more.
func TestKeptAhead(t *testing.T) {
	x := uint64(192)
	for i := range 60 {
		n := 1 + draw(&x, 4)
		s := someOf(t, drawnConf(&x, n), roomy, 40)
		for range 400 {
			were := len(s.net)
			s.act(t, &x, i%2 == 0)
			for id := range n {
				kept(t, s.nodes[id], s.disks[id], nil)
			}
			for _, f := range s.net[min(were, len(s.net)):] {
				if p := s.nodes[f.From]; !p.Halted() {
					hangs(t, f, p.State())
				}
			}
		}
	}
}

// TestKeptAheadOfEach: P19.2, by each act that keeps, and by frames and steps that don't.
func TestKeptAheadOfEach(t *testing.T) {
	for _, k := range keepings() {
		n, d := k.ready(t, roomy)
		kept(t, n, d, nil)
		got := k.act(n)
		kept(t, n, d, got.frames)
		for _, f := range append(good(), electOf(2, here, 9, 4)) {
			if n.id != here {
				continue
			}
			frames, _, _ := n.Receive(f, start+5)
			kept(t, n, d, frames)
			frames, _, _ = n.Step(start + 5)
			kept(t, n, d, frames)
		}
	}
}

// TestNothingIsToldOfWhatBroke: P19.2, behind a break, and a crash that takes what is loose, a node goes on from what was safe, as if nothing had come: nobody was told.
func TestNothingIsToldOfWhatBroke(t *testing.T) {
	for _, k := range keepings() {
		for _, keep := range []int{-1, 0, 1, bytesOf - 1, bytesOf, roomy} {
			n, d := k.ready(t, roomy)
			was := n.State()
			n.Break()
			if got := k.act(n); len(got.frames) > 0 || got.err != api.ErrHalt {
				t.Errorf("%s: %+v", k.name, got)
			}
			d.Crash(keep)
			again := made(t, n.conf, n.id, d, start)
			if keep >= bytesOf {
				was = k.want
			}
			hasState(t, again, was)
		}
	}
}

// TestManyKeepings: P19.2, over many keepings, of which the vault leaves few records on the disk: there is room, and all is safe.
func TestManyKeepings(t *testing.T) {
	d := diskOf(t, 65*bytesOf)
	n := made(t, theConf(), here, d, start)
	for hop := range 1000 {
		given(t, n, 5, hop, start)
		kept(t, n, d, nil)
	}
	d = diskOf(t, 64*bytesOf)
	n = made(t, theConf(), here, d, start)
	for hop := range 64 {
		given(t, n, 5, hop, start)
	}
	receives(t, n, passOf(0, here, tokenOf(5, 64)), start, halts())
	hasState(t, n, state(5, 5, 63, 0))
}
