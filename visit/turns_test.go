package visit

import (
	"slices"
	"testing"

	"annona/api"
	"annona/edge"
	"annona/queue"
)

// ring is some nodes, each with an edge, a token that one of them has at a time, and beside each what a plain reckoning makes of it.
type ring struct {
	c     api.Conf
	edges []*edge.Edge
	plain []*plainEdge
	token api.Token
	would *plainToken
	names int // of requests
}

// ringOf is such a one, with a token.
func ringOf(t *testing.T, c api.Conf, l api.Token) *ring {
	t.Helper()
	r := &ring{c: c, token: l, would: plainly(l)}
	for range c.N {
		r.edges, r.plain = append(r.edges, made(t, c)), append(r.plain, plainOf(c))
	}
	return r
}

// ask asks a node, with a new name.
func (r *ring) ask(t *testing.T, node int, q api.Request, now int) []api.Answer {
	t.Helper()
	r.names++
	q.ID = r.names
	got, want := r.edges[node].Ask(q, now), r.plain[node].ask(q, now)
	if !slices.Equal(got, want) {
		t.Fatalf("Ask(%+v, %d): %v, not %v", q, now, got, want)
	}
	return got
}

// expire and crash are a node's.
func (r *ring) expire(t *testing.T, node, now int) {
	t.Helper()
	if got, want := r.edges[node].Expire(now), r.plain[node].expire(now); !slices.Equal(got, want) {
		t.Fatalf("Expire(%d): %v, not %v", now, got, want)
	}
}

func (r *ring) crash(t *testing.T, node int) {
	t.Helper()
	if got, want := r.edges[node].Crash(), r.plain[node].crash(); !slices.Equal(got, want) {
		t.Fatalf("Crash: %v, not %v", got, want)
	}
}

// visit is the token's, and holds all that comes of it.
func (r *ring) visit(t *testing.T, node, now int) []api.Answer {
	t.Helper()
	was := copied(r.token)
	got, told, err := Visit(r.token, r.edges[node], node, now, r.c)
	answers := r.would.visit(r.plain[node], node, now, r.c)
	if want := r.would.token(); err != api.OK || !sameToken(got, want) {
		t.Fatalf("Visit(%v, %d, %d, %+v): error %d,\n%v, not\n%v", was, node, now, r.c, err, got, want)
	}
	if !slices.Equal(told, answers) {
		t.Fatalf("Visit(%v, %d, %d, %+v): %v is answered, not %v", was, node, now, r.c, told, answers)
	}
	if !sameToken(r.token, was) {
		t.Fatalf("%v was handed in, and is %v", was, r.token)
	}
	r.token = got
	r.check(t)
	return told
}

// check holds what the edges have.
func (r *ring) check(t *testing.T) {
	t.Helper()
	for i, e := range r.edges {
		if got, want := stateOf(e), r.plain[i].state(); !sameState(got, want) {
			t.Fatalf("edge %d is %v, not %v", i, got, want)
		}
	}
}

// give puts another token in its place.
func (r *ring) give(l api.Token) {
	r.token, r.would = l, plainly(l)
}

// pass is a hop more.
func (r *ring) pass() {
	r.token = copied(r.token)
	r.token.Hop++
	r.would.hop++
}

// drawnConf is a configuration of some nodes, mostly with little room.
func drawnConf(x *uint64, n int) api.Conf {
	return api.Conf{
		N: n, Skew: draw(x, 3), TTL: 1 + draw(x, 12), Valid: 1 + draw(x, 20), Loss: 20, Hear: 30, Keys: 1 + draw(x, 5), Queue: draw(x, 17),
		Rates: []api.Rate{{R: draw(x, 4), B: draw(x, 12)}, {R: 1 + draw(x, 3), B: 1 + draw(x, 30)}, {R: 2, B: 0}},
	}
}

// drawnKey is one of few; now and then one that has no rate.
func drawnKey(x *uint64) int {
	return []int{1, 2, 3, policy - 1, policy, policy + 4, 2 * policy, 3 * policy}[draw(x, 8)]
}

// drawnToken is one that may be, of n nodes, near a reading.
func drawnToken(x *uint64, n, now int) api.Token {
	t := api.Token{Gen: 1 + draw(x, 3), Hop: draw(x, 9), Table: api.Table{Start: max(0, now-draw(x, 30))}}
	for range n {
		t.Stamps = append(t.Stamps, min(end-1, max(-1, now-draw(x, 30)+8)))
	}
	for _, key := range []int{1, 2, 3, policy - 1, policy, policy + 4, 2 * policy, 3 * policy} {
		if draw(x, 3) > 0 {
			continue
		}
		r := rowOf(key, draw(x, 14), min(end, t.Table.Start+draw(x, 30)))
		for node := range n {
			if draw(x, 4) == 0 {
				r.Out = append(r.Out, to(node, 1+draw(x, 9)))
			}
		}
		t.Table.Rows = append(t.Table.Rows, r)
	}
	return t
}

// drawnRequest is one that may be.
func drawnRequest(x *uint64) api.Request {
	return api.Request{Key: drawnKey(x), Cost: 1 + draw(x, 8), Class: draw(x, 3), Wait: draw(x, 4) * draw(x, 12)}
}

// step is a drawn act of a drawn node.
func (r *ring) step(t *testing.T, x *uint64, now int) int {
	t.Helper()
	node, answers := draw(x, r.c.N), 0
	switch draw(x, 24) {
	case 0, 1, 2, 3, 4, 5, 6:
		answers = len(r.visit(t, node, now))
		r.pass()
	case 7:
		r.expire(t, node, now)
	case 8:
		if draw(x, 3) == 0 {
			r.crash(t, node)
		}
	case 9:
		if draw(x, 4) == 0 {
			r.give(drawnToken(x, r.c.N, now))
		}
	default:
		r.ask(t, node, drawnRequest(x), now)
	}
	return answers
}

// TestPlain: D1, drawn requests and visits, of one token and of others that come in its place, at nodes with an edge each, against the plain reckoning.
func TestPlain(t *testing.T) {
	x := uint64(180)
	answers := 0
	for i := range 900 {
		n := []int{1, 2, 3, 5, 64}[draw(&x, 5)]
		now := []int{0, 40, 40, 1 << 40, end - 60}[i%5]
		r := ringOf(t, drawnConf(&x, n), drawnToken(&x, n, now))
		for range 120 {
			// Now and then a clock goes back.
			at := min(end-1, max(0, now-draw(&x, 4)))
			answers += r.step(t, &x, at)
			now = min(end-1, now+draw(&x, 3)*draw(&x, 3))
		}
		r.check(t)
	}
	if answers < 10000 {
		t.Errorf("only %d are answered", answers)
	}
}

// TestPlainOfAny: D1, numbers of any size that may be.
func TestPlainOfAny(t *testing.T) {
	x := uint64(181)
	answers := 0
	large := func() int { return draw(&x, span) >> draw(&x, 31) }
	for range 3000 {
		n := 1 + draw(&x, 3)
		c := drawnConf(&x, n)
		c.Skew, c.TTL, c.Valid = large(), 1+large(), 1+large()
		for i := range c.Rates {
			c.Rates[i] = api.Rate{R: large() + draw(&x, 2), B: large() + draw(&x, 2)}
		}
		now := large() << draw(&x, 31)
		r := ringOf(t, c, drawnToken(&x, n, now))
		for range 20 {
			q := drawnRequest(&x)
			q.Cost, q.Wait = 1+large(), large()<<draw(&x, 10)
			r.ask(t, draw(&x, n), q, now)
			answers += len(r.visit(t, draw(&x, n), now))
			now = min(end-1, now+large()>>draw(&x, 31))
			// What a token may not have is none that a visit takes.
			if slices.ContainsFunc(r.token.Table.Rows, func(r api.Row) bool { return r.Avail > span }) {
				break
			}
		}
	}
	if answers < 2000 {
		t.Errorf("only %d are answered", answers)
	}
}

// TestTwoAtOneNode: two visits one behind the other, with requests between them, by numbers that are written out.
func TestTwoAtOneNode(t *testing.T) {
	e := made(t, theConf())
	asks(t, e, request(1, 5, 4), 44)
	l := visits(t, tokenOf(rowOf(5, 7, now)), e, theConf(), behind(rowOf(5, 3, now, to(here, 4))), yes(1, gen))
	// The lease is spent: one waits, and who won't wait goes.
	asks(t, e, request(2, 5, 5), 46)
	asks(t, e, api.Request{ID: 3, Key: 5, Cost: 1}, 46, api.Answer{ID: 3, Reason: api.NoCredit})
	asks(t, e, request(4, 6, 1), 46)
	has(t, e, state{
		[]queue.Item{{ID: 2, Key: 5, Cost: 5, Class: 1, Until: 76}, {ID: 4, Key: 6, Cost: 1, Class: 1, Until: 76}},
		leasesOf(of(5, gen, 4, 4, until)),
		[]edge.Want{{Key: 5, Amount: 5}, {Key: 6, Amount: 1}},
	})
	// Two more are minted, as many as the burst leaves beside 3 and the 4 that are out; these were spent.
	l = visitsAt(t, l, e, here, 47, theConf(), stamped(behind(rowOf(5, 0, 47, to(here, 5)), rowOf(6, 8, 47, to(here, 1))), 40, 38, 47), yes(2, gen), yes(4, gen))
	has(t, e, state{leases: leasesOf(of(5, gen, 5, 5, 52), of(6, gen, 1, 1, 52)), wants: wants(5, 4)})
	l = visitsAt(t, l, e, here, 48, theConf(), stamped(behind(rowOf(5, 0, 48, to(here, 2)), rowOf(6, 7, 48, to(here, 1))), 40, 38, 48))
	has(t, e, state{
		leases: leasesOf(of(5, gen, 2, 0, 53), of(6, gen, 1, 0, 53)),
		wants:  []edge.Want{{Key: 5, Amount: 5}, {Key: 6, Amount: 1}},
	})
	// Nobody asks any more: what is wanted fades, and what was lent comes back.
	l = visitsAt(t, l, e, here, 50, theConf(), stamped(behind(rowOf(5, 4, 50, to(here, 2)), rowOf(6, 9, 50)), 40, 38, 50))
	has(t, e, state{leases: leasesOf(of(5, gen, 2, 0, 55)), wants: wants(5, 2)})
	l = visitsAt(t, stamped(l, 40, 52, 50), e, here, 53, theConf(), stamped(behind(rowOf(5, 8, 53, to(here, 1)), rowOf(6, 9, 50)), 40, 52, 53))
	has(t, e, state{leases: leasesOf(of(5, gen, 1, 0, 58)), wants: wants(5, 1)})
	visitsAt(t, l, e, here, 56, theConf(), stamped(behind(rowOf(5, 9, 56), rowOf(6, 9, 50)), 40, 52, 56))
	has(t, e, state{})
}

// TestTwoNodesInTurn: of two nodes, each with an edge of its own, what one brings back the other one is lent.
func TestTwoNodesInTurn(t *testing.T) {
	c := sized(2)
	a, b := made(t, c), made(t, c)
	l := stamped(tokenOf(rowOf(5, 9, 45)), 45, 45)
	l = visitsAt(t, l, b, 1, 45, c, l)
	asks(t, a, request(1, 5, 6), 45)
	l = visitsAt(t, l, a, 0, 45, c, stamped(tokenOf(rowOf(5, 3, 45, to(0, 6))), 45, 45), yes(1, gen))
	asks(t, b, request(1, 5, 4), 45)
	asks(t, b, request(2, 5, 1), 45)
	// At 45 there are 3, which are lent, and are too few for the first one.
	l = visitsAt(t, l, b, 1, 45, c, stamped(tokenOf(rowOf(5, 0, 45, to(0, 6), to(1, 3))), 45, 45))
	has(t, b, state{
		[]queue.Item{{ID: 1, Key: 5, Cost: 4, Class: 1, Until: 75}, {ID: 2, Key: 5, Cost: 1, Class: 1, Until: 75}},
		leasesOf(of(5, gen, 3, 0, 50)), wants(5, 5),
	})
	// Node 0 spent 6: nothing is minted at 46, since all of the burst was out, and nothing is there to be lent.
	l = visitsAt(t, l, a, 0, 46, c, stamped(tokenOf(rowOf(5, 0, 46, to(1, 3))), 46, 45))
	// At 48 node 1 brings back 3, beside 4 that are minted: 5 are wanted, and who waits is answered.
	l = visitsAt(t, l, b, 1, 48, c, stamped(tokenOf(rowOf(5, 2, 48, to(1, 5))), 46, 48), yes(1, gen), yes(2, gen))
	has(t, b, state{leases: leasesOf(of(5, gen, 5, 5, 53))})
	// Node 0 is lent the rest, by its estimate.
	visitsAt(t, l, a, 0, 48, c, stamped(tokenOf(rowOf(5, 0, 48, to(0, 2), to(1, 5))), 48, 48))
	has(t, a, state{leases: leasesOf(of(5, gen, 2, 0, 53)), wants: wants(5, 6)})
}

// TestShortRows: D1, all rows of five acts of a few kinds, with room for one key, and for two.
func TestShortRows(t *testing.T) {
	c := sized(2)
	c.Skew, c.Queue, c.Rates = 0, 2, []api.Rate{{R: 2, B: 3}}
	acts := []func(r *ring, now *int){
		func(r *ring, now *int) { r.ask(t, 0, request(0, 1, 2), *now) },
		func(r *ring, now *int) { r.ask(t, 0, api.Request{Key: 2, Cost: 1, Wait: 2}, *now) },
		func(r *ring, now *int) { r.ask(t, 1, request(0, 1, 3), *now) },
		func(r *ring, now *int) { r.visit(t, 0, *now) },
		func(r *ring, now *int) { r.visit(t, 1, *now) },
		func(r *ring, now *int) { *now += 2 },
		func(r *ring, now *int) { r.crash(t, 0) },
		func(r *ring, now *int) { *now += 11 },
	}
	for rooms := 1; rooms <= 2; rooms++ {
		for row := range 8 * 8 * 8 * 8 * 8 {
			now := 20
			r := ringOf(t, keys(c, rooms), stamped(tokenOf(), 20, 20))
			for range 5 {
				acts[row%8](r, &now)
				row /= 8
			}
			r.check(t)
		}
	}
}
