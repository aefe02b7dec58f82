package node

import (
	"slices"
	"testing"

	"annona/api"
	"annona/disk"
)

// some are nodes together, each on a disk of its own, the frames that are between them, and beside each node what a plain reckoning makes of it.
type some struct {
	c     api.Conf
	nodes []*Node
	disks []*disk.Disk
	plain []*plain
	net   []api.Frame
	time  int
	names int // of requests
	count counts
}

// counts are how often something came of all that was done.
type counts struct {
	accepted, won, stood, halted, granted, alone, greatest int
}

// someOf are such ones, on disks with that room.
func someOf(t *testing.T, c api.Conf, room, time int) *some {
	t.Helper()
	s := &some{c: c, time: time}
	for i := range c.N {
		s.disks = append(s.disks, diskOf(t, room))
		s.nodes = append(s.nodes, made(t, c, i, s.disks[i], time))
		s.plain = append(s.plain, plainOn(c, i, &records{room: room}, time))
	}
	return s
}

// reading is a node's: as wrong as it may be.
func (s *some) reading(x *uint64) int {
	return min(end-1, max(0, s.time+draw(x, 2*s.c.Skew+1)-s.c.Skew))
}

// came holds what a node told, and what it is then, against the plain reckoning; what it sent goes into the net.
func (s *some) came(t *testing.T, id int, name string, got, want said) {
	t.Helper()
	if !sameSaid(got, want) {
		t.Fatalf("node %d, %s:\n%+v, not\n%+v", id, name, got, want)
	}
	p := s.plain[id]
	if got, want := looksOf(s.nodes[id]), p.looks(); !sameLooks(got, want) {
		t.Fatalf("node %d, %s: it is\n%+v, not\n%+v", id, name, got, want)
	}
	if d := s.disks[id]; !slices.Equal(d.File(), fileOf(p.disk.all...)) || d.Safe() != bytesOf*p.disk.safe {
		t.Fatalf("node %d, %s: %v stand on its disk, %d safe, not %v, %d", id, name, d.File(), d.Safe(), p.disk.all, p.disk.safe)
	}
	s.net = append(s.net, got.frames...)
	for _, a := range got.answers {
		if a.Reason == api.Granted {
			s.count.granted++
		}
	}
	if got.err == api.ErrHalt {
		s.count.halted++
	}
	s.count.greatest = max(s.count.greatest, p.promised)
}

// step lets a node step.
func (s *some) step(t *testing.T, id, now int) {
	t.Helper()
	p := s.plain[id]
	accepted, won, stood := len(p.places), p.won, p.stands
	var got said
	got.frames, got.answers, got.err = s.nodes[id].Step(now)
	s.came(t, id, "Step", got, p.step(now))
	s.count.alone += len(p.places) - accepted
	if p.won > 0 && won == 0 {
		s.count.won++
	}
	if p.stands && !stood {
		s.count.stood++
	}
}

// deliver lets a frame come.
func (s *some) deliver(t *testing.T, f api.Frame, now int) {
	t.Helper()
	p := s.plain[f.To]
	accepted, won := len(p.places), p.won
	was := f
	was.Token = copied(f.Token)
	var got said
	got.frames, got.answers, got.err = s.nodes[f.To].Receive(f, now)
	s.came(t, f.To, "Receive", got, p.receive(was, now))
	if !sameFrame(f, was) {
		t.Fatalf("%+v was handed in, and is %+v", was, f)
	}
	s.count.accepted += len(p.places) - accepted
	if p.won > 0 && won == 0 {
		s.count.won++
	}
}

// ask asks a node, with a new name.
func (s *some) ask(t *testing.T, id int, r api.Request, now int) {
	t.Helper()
	s.names++
	r.ID = s.names
	var got said
	got.answers, got.err = s.nodes[id].Ask(r, now)
	s.came(t, id, "Ask", got, s.plain[id].ask(r, now))
}

// crash crashes a node, with its disk, which keeps so many bytes of what is loose, and makes a new one on it.
func (s *some) crash(t *testing.T, id, keep, now int) {
	t.Helper()
	got, want := s.nodes[id].Crash(), s.plain[id].crash()
	s.came(t, id, "Crash", said{answers: got}, said{answers: want})
	s.disks[id].Crash(keep)
	r := s.plain[id].disk
	r.crash(keep)
	s.nodes[id], s.plain[id] = made(t, s.c, id, s.disks[id], now), plainOn(s.c, id, r, now)
	s.came(t, id, "New", said{}, said{})
}

// breaks tells a node to break.
func (s *some) breaks(id int) {
	s.nodes[id].Break()
	s.plain[id].breaks = true
}

// take takes a frame out of the net: mostly one of the first ones, of which more are beats than there should be.
func (s *some) take(x *uint64) (api.Frame, bool) {
	if len(s.net) == 0 {
		return api.Frame{}, false
	}
	k := draw(x, min(len(s.net), 1+draw(x, 6)))
	if draw(x, 3) > 0 {
		k = max(0, slices.IndexFunc(s.net, func(f api.Frame) bool { return f.Kind != api.Beat }))
	}
	if draw(x, 15) == 0 {
		k = draw(x, len(s.net))
	}
	f := s.net[k]
	// Now and then it stays, and comes again.
	if draw(x, 15) > 0 {
		s.net = slices.Delete(s.net, k, k+1)
	}
	return f, true
}

// lose loses frames, so that the net has not too many.
func (s *some) lose(x *uint64, most int) {
	for len(s.net) > most {
		k := draw(x, len(s.net))
		s.net = slices.Delete(s.net, k, k+1)
	}
}

// act is a drawn act; of forged frames only if it is said so.
func (s *some) act(t *testing.T, x *uint64, forged bool) {
	t.Helper()
	id, now := draw(x, s.c.N), s.reading(x)
	if s.plain[id].halted && draw(x, 4) > 0 {
		s.crash(t, id, draw(x, 70)-3, now)
	}
	switch k := draw(x, 1000); {
	case k < 200:
		s.step(t, id, now)
		s.lose(x, 12*s.c.N)
	case k < 750:
		if f, ok := s.take(x); ok && draw(x, 20) > 0 {
			s.deliver(t, f, s.reading(x))
		}
	case k < 950:
		s.ask(t, id, drawnRequest(x), now)
	case k < 952:
		s.breaks(id)
	case k < 954:
		s.crash(t, id, draw(x, 70)-3, now)
	case k < 964 && forged:
		s.deliver(t, s.forge(x, id), now)
	default:
		s.time = min(end-1, s.time+draw(x, 4)*draw(x, 4))
	}
}

// forge is a frame that nobody sent, near what the node has.
func (s *some) forge(x *uint64, id int) api.Frame {
	p := s.plain[id]
	from, near := draw(x, s.c.N), max(1, p.promised+draw(x, 5)-2)
	switch draw(x, 4) {
	case 0:
		return electOf(from, id, near, uint64(draw(x, 1<<s.c.N)))
	case 1:
		return ackOf(from, id, near, draw(x, 4))
	case 2:
		return beatOf(from, id)
	}
	t := api.Token{Gen: near, Hop: max(0, p.place().Hop+draw(x, 5)-2), Table: api.Table{Start: max(0, s.time-draw(x, 40))}}
	if draw(x, 2) == 0 {
		t.Hop = 0
	}
	for range s.c.N - draw(x, 9)/8 {
		t.Stamps = append(t.Stamps, max(-1, min(end-1, s.time-draw(x, 12)+4)))
	}
	if len(t.Stamps) == 0 {
		return beatOf(from, id)
	}
	for key := range 3 {
		if draw(x, 2) == 0 {
			t.Table.Rows = append(t.Table.Rows, rowOf(key, draw(x, 20), t.Table.Start+draw(x, 40), api.Lease{Node: draw(x, s.c.N), Amount: 1 + draw(x, 9)}))
		}
	}
	return passOf(from, id, t)
}

// drawnRequest is one that may be.
func drawnRequest(x *uint64) api.Request {
	key := []int{0, 1, 2, policy}[draw(x, 4)]
	return api.Request{Key: key, Cost: 1 + draw(x, 6), Class: draw(x, 3), Wait: draw(x, 4) * draw(x, 30)}
}

// drawnConf is a configuration of some nodes, in which a token is soon lost.
func drawnConf(x *uint64, n int) api.Conf {
	return api.Conf{
		N: n, Skew: draw(x, 3), TTL: 1 + draw(x, 12), Valid: 1 + draw(x, 30), Loss: 1 + draw(x, 150), Hear: 1 + draw(x, 60),
		Keys: 1 + draw(x, 3), Queue: draw(x, 17), Rates: []api.Rate{{R: draw(x, 4), B: draw(x, 12)}, {R: 1 + draw(x, 3), B: 1 + draw(x, 30)}},
	}
}

// add adds what was counted.
func (c *counts) add(d counts) {
	c.accepted += d.accepted
	c.won += d.won
	c.stood += d.stood
	c.halted += d.halted
	c.granted += d.granted
	c.alone += d.alone
	c.greatest = max(c.greatest, d.greatest)
}

// TestSomeTogether: P19.1, nodes of rings of several sizes, over drawn steps, frames that come, are lost, come twice and late, requests, crashes of disks that keep a part, and, of every other ring, frames that nobody sent, against the plain reckoning.
func TestSomeTogether(t *testing.T) {
	x := uint64(190)
	var all counts
	for i := range 400 {
		n := []int{1, 2, 3, 4, 5, 3}[i%6]
		room := []int{roomy, roomy, roomy, 5 * bytesOf, 65 * bytesOf}[draw(&x, 5)]
		s := someOf(t, drawnConf(&x, n), room, []int{0, 40, 1 << 40, end - 900}[draw(&x, 4)])
		for range 600 * n {
			s.act(t, &x, i%2 == 0)
		}
		all.add(s.count)
	}
	if all.accepted < 3000 || all.won < 500 || all.stood < 1500 || all.halted < 2000 || all.granted < 1500 || all.alone < 800 {
		t.Errorf("too little came of it: %+v", all)
	}
}

// TestAGoodRing: nodes that step in turn, whose frames come at once: the token goes round, and serves all.
func TestAGoodRing(t *testing.T) {
	for _, n := range []int{2, 3, 5, 17} {
		c := sized(n)
		c.Hear, c.Loss, c.Valid = 40, 300, 200
		s := someOf(t, c, roomy, 50)
		x := uint64(n)
		for range 900 {
			s.time++
			for i := range n {
				s.step(t, i, s.time)
				if draw(&x, 3*n) == 0 {
					s.ask(t, i, request(0, draw(&x, 3), 1+draw(&x, 3)), s.time)
				}
			}
			for net := s.net; len(net) > 0; net = s.net {
				s.net = nil
				for _, f := range net {
					// Of the beats few are enough, and all of them take their time.
					if f.Kind != api.Beat || s.time%16 == 0 {
						s.deliver(t, f, s.time)
					}
				}
			}
		}
		if s.count.granted < 30 || s.count.accepted < 120 || s.count.won != 1 {
			t.Errorf("of %d: %+v", n, s.count)
		}
	}
}

// TestShortRows: P19.1, all rows of five acts of a few kinds, of three nodes, of which one is looked at.
func TestShortRows(t *testing.T) {
	c := theConf()
	c.Loss, c.Hear, c.Skew, c.TTL, c.Valid, c.Queue = 4, 3, 0, 1, 2, 2
	l := stamped(stamped(tokenOf(4, 0), 0, 101), here, 101)
	acts := []func(s *some){
		func(s *some) { s.step(t, here, s.time) },
		func(s *some) { s.time += 3 },
		func(s *some) { s.deliver(t, electOf(0, here, 4, 5), s.time) },
		func(s *some) { s.deliver(t, electOf(2, here, 5, 5), s.time) },
		func(s *some) { s.deliver(t, passOf(0, here, l), s.time) },
		func(s *some) { s.deliver(t, passOf(0, here, stamped(tokenOf(3, 2), 2, s.time)), s.time) },
		func(s *some) { s.ask(t, here, request(0, 5, 2), s.time) },
		func(s *some) { s.breaks(here) },
		func(s *some) { s.crash(t, here, 31, s.time) },
	}
	for row := range 9 * 9 * 9 * 9 * 9 {
		s := someOf(t, c, roomy, start)
		for range 5 {
			acts[row%9](s)
			row /= 9
		}
		s.step(t, here, s.time)
	}
}
