package visit

import (
	"testing"

	"annona/api"
	"annona/edge"
	"annona/queue"
)

// items is a list of how requests wait.
func items(l ...api.Request) []queue.Item {
	var out []queue.Item
	for _, r := range l {
		out = append(out, item(r))
	}
	return out
}

// wants is a list of one key of which so much is wanted.
func wants(key, amount int) []edge.Want {
	return []edge.Want{{Key: key, Amount: amount}}
}

// TestGranted: of each key that is wanted as much as is wanted is lent, of the token's generation, until the reading and TTL, and who waits is answered.
func TestGranted(t *testing.T) {
	e := asked(t, theConf(), request(1, policy, 30), request(2, 5, 4), request(3, policy, 5), request(4, 2*policy+1, 20))
	visits(t, tokenOf(rowOf(5, 7, 40, to(1, 1)), rowOf(policy, 90, 10)), e, theConf(),
		behind(rowOf(5, 4, now, to(1, 1), to(here, 4)), rowOf(policy, 65, now, to(here, 35)), rowOf(2*policy+1, 0, now, to(here, 20))),
		yes(2, gen), yes(1, gen), yes(3, gen), yes(4, gen))
	has(t, e, state{leases: leasesOf(of(5, gen, 4, 4, until), of(policy, gen, 35, 35, until), of(2*policy+1, gen, 20, 20, until))})
}

// TestGrantedOfNew: a key without a row gets one, minted since Start.
func TestGrantedOfNew(t *testing.T) {
	for _, x := range []struct{ start, avail, granted int }{{now, 0, 0}, {now - 1, 0, 2}, {now - 2, 0, 4}, {now - 3, 2, 4}, {10, 5, 4}, {now + 1, 0, 0}} {
		e := asked(t, theConf(), request(1, 5, 2), request(2, 5, 2))
		l := tokenOf()
		l.Table.Start = x.start
		want := behind(rowOf(5, x.avail, max(now, x.start)))
		want.Table.Start = x.start
		var answers []api.Answer
		var s state
		switch x.granted {
		case 0:
			s = state{items: items(request(1, 5, 2), request(2, 5, 2)), wants: wants(5, 4)}
		case 2:
			answers = []api.Answer{yes(1, gen)}
			s = state{items(request(2, 5, 2)), leasesOf(of(5, gen, 2, 2, until)), wants(5, 2)}
		case 4:
			answers = []api.Answer{yes(1, gen), yes(2, gen)}
			s = state{leases: leasesOf(of(5, gen, 4, 4, until))}
		}
		if x.granted > 0 {
			want.Table.Rows[0].Out = []api.Lease{to(here, x.granted)}
		}
		visits(t, l, e, theConf(), want, answers...)
		has(t, e, s)
	}
}

// TestNothingAvail: there is no lease, and who waits waits on; the row is minted all the same.
func TestNothingAvail(t *testing.T) {
	for _, r := range []api.Row{rowOf(5, 0, now), rowOf(5, 0, now+9), rowOf(5, 0, 20, to(0, 4), to(1, 5))} {
		e := asked(t, theConf(), request(1, 5, 2), request(2, 6, 1))
		want := r
		want.Mark = max(now, r.Mark)
		visits(t, tokenOf(r, rowOf(6, 3, now)), e, theConf(), behind(want, rowOf(6, 2, now, to(here, 1))), yes(2, gen))
		has(t, e, state{items(request(1, 5, 2)), leasesOf(of(6, gen, 1, 1, until)), wants(5, 2)})
	}
}

// TestLessAvail: if less is Avail than is wanted, there is a lease of that, and who waits is served in turn as long as it lasts.
func TestLessAvail(t *testing.T) {
	for avail := 1; avail < 9; avail++ {
		e := asked(t, theConf(), classed(request(1, 5, 4), 2), request(2, 5, 2), classed(request(3, 5, 2), 0), classed(request(4, 5, 1), 2))
		l := tokenOf(rowOf(5, avail, now))
		var answers []api.Answer
		s := state{items: items(classed(request(1, 5, 4), 2), request(2, 5, 2), classed(request(3, 5, 2), 0), classed(request(4, 5, 1), 2)), wants: wants(5, 9)}
		spent := 0
		if avail >= 2 {
			answers, spent = append(answers, yes(3, gen)), 2
			s.items, s.wants = items(classed(request(1, 5, 4), 2), request(2, 5, 2), classed(request(4, 5, 1), 2)), wants(5, 7)
		}
		if avail >= 4 {
			answers, spent = append(answers, yes(2, gen)), 4
			s.items, s.wants = items(classed(request(1, 5, 4), 2), classed(request(4, 5, 1), 2)), wants(5, 5)
		}
		if avail == 8 {
			answers, spent = append(answers, yes(1, gen)), 8
			s.items, s.wants = items(classed(request(4, 5, 1), 2)), wants(5, 1)
		}
		s.leases = leasesOf(of(5, gen, avail, spent, until))
		visits(t, l, e, theConf(), behind(rowOf(5, 0, now, to(here, avail))), answers...)
		has(t, e, s)
	}
}

// TestAsMuchAsIsWanted: if more is Avail, no more is lent; of what is wanted of a key, its B is the most.
func TestAsMuchAsIsWanted(t *testing.T) {
	e := asked(t, theConf(), request(1, 5, 6), request(2, 5, 6), request(3, 6, 1))
	visits(t, tokenOf(rowOf(5, 40, now), rowOf(6, 40, now)), e, theConf(),
		behind(rowOf(5, 31, now, to(here, 9)), rowOf(6, 39, now, to(here, 1))), yes(1, gen), yes(3, gen))
	has(t, e, state{items(request(2, 5, 6)), leasesOf(of(5, gen, 9, 6, until), of(6, gen, 1, 1, until)), wants(5, 6)})
}

// TestWantedByEstimate: a key that nobody waits for, but that was spent of, gets a lease too.
func TestWantedByEstimate(t *testing.T) {
	e := asked(t, theConf(), request(1, 6, 3))
	estimated(t, e, 5, 4)
	estimated(t, e, 6, 2)
	estimated(t, e, 7, 50)
	estimated(t, e, policy, 50)
	visits(t, tokenOf(rowOf(7, 3, now), rowOf(policy, 0, 30)), e, theConf(),
		behind(rowOf(5, 5, now, to(here, 4)), rowOf(6, 4, now, to(here, 5)), rowOf(7, 0, now, to(here, 3)), rowOf(policy, 0, now, to(here, 15))),
		yes(1, gen))
	has(t, e, state{
		leases: leasesOf(of(5, gen, 4, 0, until), of(6, gen, 5, 3, until), of(7, gen, 3, 0, until), of(policy, gen, 15, 0, until)),
		wants:  []edge.Want{{Key: 5, Amount: 4}, {Key: 6, Amount: 2}, {Key: 7, Amount: 9}, {Key: policy, Amount: 50}},
	})
}

// TestGrantedBehindSettling: what is wanted is asked behind the settling, and what was brought back is there to be lent again.
func TestGrantedBehindSettling(t *testing.T) {
	e := made(t, theConf())
	put(t, e, of(5, gen, 9, 3, 44))
	asks(t, e, request(1, 5, 4), 44)
	visits(t, tokenOf(rowOf(5, 0, now, to(here, 9))), e, theConf(), behind(rowOf(5, 0, now, to(here, 6))), yes(1, gen))
	has(t, e, state{leases: leasesOf(of(5, gen, 6, 4, until)), wants: wants(5, 3)})
}

// TestUntil: a lease is until the reading and TTL, added, also where that runs over.
func TestUntil(t *testing.T) {
	for _, x := range []struct{ at, ttl, until int }{
		{0, 1, 1}, {0, span, span}, {now, 1, now + 1}, {now, span, span + now}, {end - 5, 4, end - 1}, {end - 5, 5, end}, {end - 5, 6, end}, {end - 1, 1, end}, {end - 1, span, end},
	} {
		c := theConf()
		c.TTL = x.ttl
		e := made(t, c)
		asks(t, e, request(1, 5, 3), x.at)
		l := stamped(tokenOf(rowOf(5, 4, end)), x.at, -1, -1)
		visitsAt(t, l, e, here, x.at, c, stamped(tokenOf(rowOf(5, 1, end, to(here, 3))), x.at, -1, x.at), yes(1, gen))
		has(t, e, state{leases: leasesOf(of(5, gen, 3, 3, x.until))})
	}
}

// TestGenerationOfLeases: leases, and answers, are of the token's generation.
func TestGenerationOfLeases(t *testing.T) {
	for _, g := range []int{1, 2, 900, most - 1, most} {
		e := asked(t, theConf(), request(1, 5, 3))
		put(t, e, of(6, g, 4, 2, 60))
		l, want := tokenOf(rowOf(6, 0, now, to(here, 4))), behind(rowOf(5, 6, now, to(here, 3)), rowOf(6, 0, now, to(here, 2)))
		l.Gen, want.Gen = g, g
		l.Hop, want.Hop = most, most
		visits(t, l, e, theConf(), want, yes(1, g))
		has(t, e, state{leases: leasesOf(of(5, g, 3, 3, until), of(6, g, 2, 0, until)), wants: wants(6, 2)})
	}
}

// TestGreatestGrant: of the greatest B, all of it.
func TestGreatestGrant(t *testing.T) {
	c := theConf()
	c.Rates[0] = api.Rate{R: 1, B: span}
	for _, cost := range []int{span - 1, span} {
		e := asked(t, c, request(1, 5, cost))
		visits(t, tokenOf(rowOf(5, span, 40)), e, c, behind(rowOf(5, span-cost, now, to(here, cost))), yes(1, gen))
		has(t, e, state{leases: leasesOf(of(5, gen, cost, cost, until))})
	}
	e := asked(t, c, request(1, 5, span), request(2, 5, span))
	visits(t, tokenOf(rowOf(5, span, 40)), e, c, behind(rowOf(5, 0, now, to(here, span))), yes(1, gen))
	has(t, e, state{items(request(2, 5, span)), leasesOf(of(5, gen, span, span, until)), wants(5, span)})
}

// TestLentBesideOthers: a lease is put among those of other nodes, by nodes.
func TestLentBesideOthers(t *testing.T) {
	for node := range 3 {
		e := asked(t, theConf(), request(1, 5, 3))
		var out, with []api.Lease
		for i := range 3 {
			if i != node {
				out, with = append(out, to(i, 1)), append(with, to(i, 1))
				continue
			}
			with = append(with, to(i, 3))
		}
		l := stamped(tokenOf(rowOf(5, 4, now, out...)), 45, 45, 45)
		visitsAt(t, l, e, node, now, theConf(), stamped(tokenOf(rowOf(5, 1, now, with...)), 45, 45, 45), yes(1, gen))
	}
}

// TestOverdue: who waited too long, but was not told so, waits, and is served.
func TestOverdue(t *testing.T) {
	e := made(t, theConf())
	asks(t, e, request(1, 5, 3), 2)
	visits(t, tokenOf(rowOf(5, 4, now)), e, theConf(), behind(rowOf(5, 1, now, to(here, 3))), yes(1, gen))
}
