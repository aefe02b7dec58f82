package visit

import (
	"testing"

	"annona/api"
	"annona/edge"
	"annona/lease"
	"annona/queue"
)

// TestSettledByWhatWasSpent: of a lease all was spent, some, and nothing; what was spent is noted, and so wanted again.
func TestSettledByWhatWasSpent(t *testing.T) {
	for _, x := range []struct {
		spent, avail, granted int
	}{
		// Ahead are 1 and 6 out, so that 2 are minted, and 3 are there; of these, and of what was not spent, as much is lent again as was spent.
		{0, 9, 0}, {1, 7, 1}, {2, 5, 2}, {3, 3, 3}, {4, 1, 4}, {5, 0, 4}, {6, 0, 3},
	} {
		e := made(t, theConf())
		put(t, e, of(5, gen, 6, x.spent, 60))
		want := behind(rowOf(5, x.avail, now))
		var s state
		if x.spent > 0 {
			want = behind(rowOf(5, x.avail, now, to(here, x.granted)))
			s = state{leases: leasesOf(of(5, gen, x.granted, 0, until)), wants: []edge.Want{{Key: 5, Amount: x.spent}}}
		}
		visits(t, tokenOf(rowOf(5, 1, 40, to(here, 6))), e, theConf(), want)
		has(t, e, s)
	}
}

// TestSettledWithoutLease: what the edge has no lease of is all spent, as at a node that crashed; also where the edge's lease is of another generation.
func TestSettledWithoutLease(t *testing.T) {
	l := tokenOf(rowOf(5, 1, 40, to(here, 6)))
	want := behind(rowOf(5, 3, now))
	e := made(t, theConf())
	visits(t, l, e, theConf(), want)
	has(t, e, state{})
	e = made(t, theConf())
	put(t, e, of(5, gen, 6, 2, 60))
	e.Crash()
	visits(t, l, e, theConf(), want)
	has(t, e, state{})
	for _, g := range []int{1, gen - 1, gen + 1, most} {
		e := made(t, theConf())
		put(t, e, of(5, g, 6, 2, 60))
		visits(t, l, e, theConf(), want)
		has(t, e, state{})
	}
	// A lease of another key is none of it.
	e = made(t, theConf())
	put(t, e, of(6, gen, 6, 2, 60))
	visits(t, l, e, theConf(), want)
	has(t, e, state{leases: leasesOf(of(6, gen, 6, 2, 60))})
}

// TestSettledOfAnotherAmount: what was spent counts as far as the node holds so much.
func TestSettledOfAnotherAmount(t *testing.T) {
	e := made(t, theConf())
	put(t, e, of(5, gen, 8, 7, 60))
	visits(t, tokenOf(rowOf(5, 1, 40, to(here, 3))), e, theConf(), behind(rowOf(5, 0, now, to(here, 6))))
	has(t, e, state{leases: leasesOf(of(5, gen, 6, 0, until)), wants: []edge.Want{{Key: 5, Amount: 7}}})
}

// TestMintedAheadOfSettling: what is out takes room as the row is minted, so that what was spent isn't minted at the same visit.
func TestMintedAheadOfSettling(t *testing.T) {
	e := made(t, theConf())
	put(t, e, of(5, gen, 9, 9, 60), of(6, gen, 4, 4, 60), of(policy, gen, 50, 0, 60))
	visits(t, tokenOf(rowOf(5, 0, 12, to(here, 9)), rowOf(6, 5, 12, to(here, 4)), rowOf(policy, 3, 40, to(here, 50))), e, theConf(),
		behind(rowOf(5, 0, now), rowOf(6, 1, now, to(here, 4)), rowOf(policy, 58, now)))
	has(t, e, state{
		leases: leasesOf(of(6, gen, 4, 0, until)),
		wants:  []edge.Want{{Key: 5, Amount: 9}, {Key: 6, Amount: 4}},
	})
}

// TestSettledNotBack: a row whose Mark is above the reading is settled, and minted nothing.
func TestSettledNotBack(t *testing.T) {
	e := made(t, theConf())
	put(t, e, of(5, gen, 4, 0, 60), of(6, gen, 4, 0, 60))
	visits(t, tokenOf(rowOf(5, 0, now, to(here, 4)), rowOf(6, 0, now+1, to(here, 4)), rowOf(7, 0, end, to(here, 4))), e, theConf(),
		behind(rowOf(5, 4, now), rowOf(6, 4, now+1), rowOf(7, 0, end)))
}

// TestSettledOfOthers: what other nodes hold stays, and rows of which the node holds nothing, and wants nothing, are not minted.
func TestSettledOfOthers(t *testing.T) {
	e := made(t, theConf())
	put(t, e, of(5, gen, 3, 0, 60), of(7, gen, 2, 0, 60))
	visits(t, tokenOf(
		rowOf(4, 1, 20, to(0, 2), to(1, 3), to(3, 1), to(63, 2)),
		rowOf(5, 1, 40, to(0, 1), to(1, 2), to(here, 3), to(3, 1)),
		rowOf(6, 0, 10),
		rowOf(7, 0, 40, to(here, 2), to(63, 7)),
	), e, theConf(), behind(
		rowOf(4, 1, 20, to(0, 2), to(1, 3), to(3, 1), to(63, 2)),
		rowOf(5, 5, now, to(0, 1), to(1, 2), to(3, 1)),
		rowOf(6, 0, 10),
		rowOf(7, 2, now, to(63, 7)),
	))
	has(t, e, state{})
}

// TestSettledOfOneNode: each node's own leases are settled, of a ring of 64 too.
func TestSettledOfOneNode(t *testing.T) {
	c := sized(64)
	c.Rates[0].B = 2*64 + 5
	for _, node := range []int{0, 1, 31, 32, 62, 63} {
		r := rowOf(5, 5, now)
		want := rowOf(5, 7, now)
		for i := range 64 {
			r.Out = append(r.Out, to(i, 2))
			if i != node {
				want.Out = append(want.Out, to(i, 2))
			}
		}
		e := made(t, c)
		put(t, e, of(5, gen, 2, 0, 60))
		stamps := make([]int, 64)
		for i := range stamps {
			stamps[i] = now
		}
		visitsAt(t, stamped(tokenOf(r), stamps...), e, node, now, c, stamped(tokenOf(want), stamps...))
		has(t, e, state{})
	}
}

// TestSettledWithoutRate: a key without a rate has its row as it was ahead, and is settled all the same.
func TestSettledWithoutRate(t *testing.T) {
	// Policy 3 has none.
	key := 3*policy + 5
	l := tokenOf(rowOf(key, 1, 20, to(1, 2), to(here, 6)), rowOf(key+1, 0, 20, to(here, 4)), rowOf(7*policy, 0, 20, to(here, 1)))
	e := made(t, theConf())
	put(t, e, of(key, gen, 6, 2, 60), of(7*policy, gen-1, 1, 0, 60))
	visits(t, l, e, theConf(), behind(rowOf(key, 5, 20, to(1, 2)), rowOf(key+1, 0, 20), rowOf(7*policy, 0, 20)))
	has(t, e, state{})
}

// TestWithoutRateHere: an edge may have a rate where the visit's configuration has none: what is Avail then is granted, as it stands, and a key without a row gets none.
func TestWithoutRateHere(t *testing.T) {
	c := theConf()
	c.Rates = c.Rates[:1]
	for _, room := range []int{1, 6} {
		e := asked(t, theConf(), request(1, policy, 4), request(2, policy+1, 4), request(3, 2*policy, 4))
		visits(t, tokenOf(rowOf(policy, 6, 20, to(1, 1)), rowOf(2*policy, 0, 20)), e, keys(c, room),
			behind(rowOf(policy, 2, 20, to(1, 1), to(here, 4)), rowOf(2*policy, 0, 20)), yes(1, gen))
		has(t, e, state{
			[]queue.Item{item(request(2, policy+1, 4)), item(request(3, 2*policy, 4))},
			leasesOf(of(policy, gen, 4, 4, until)),
			[]edge.Want{{Key: policy + 1, Amount: 4}, {Key: 2 * policy, Amount: 4}},
		})
	}
}

// TestLesserGenerations: leases of lesser generations are dropped, and what was spent of them is neither settled nor noted; those of this one, and of greater ones, stay, if nothing is held of their keys.
func TestLesserGenerations(t *testing.T) {
	e := made(t, theConf())
	put(t, e,
		of(3, 1, 6, 2, 60), of(4, gen-1, 6, 2, 60), of(5, gen-1, 6, 2, 60),
		of(6, gen, 6, 2, 60), of(7, gen+1, 6, 2, 60), of(policy, most, 6, 2, 60), of(-5, gen-1, 6, 2, 60))
	l := tokenOf(rowOf(3, 1, 40, to(1, 6)), rowOf(4, 1, 40), rowOf(5, 1, 40, to(here, 6)), rowOf(6, 1, 40))
	visits(t, l, e, theConf(), behind(rowOf(3, 1, 40, to(1, 6)), rowOf(4, 1, 40), rowOf(5, 3, now), rowOf(6, 1, 40)))
	has(t, e, state{leases: leasesOf(of(6, gen, 6, 2, 60), of(7, gen+1, 6, 2, 60), of(policy, most, 6, 2, 60))})
}

// TestDroppedAheadOfGranting: a key whose lease was of a lesser generation is lent anew at the same visit.
func TestDroppedAheadOfGranting(t *testing.T) {
	e := asked(t, theConf(), request(1, 5, 3), request(2, 6, 2))
	put(t, e, of(5, gen-1, 2, 1, 60), of(6, gen-1, 1, 0, 60))
	visits(t, tokenOf(), e, theConf(), behind(rowOf(5, 6, now, to(here, 3)), rowOf(6, 7, now, to(here, 2))), yes(1, gen), yes(2, gen))
	has(t, e, state{leases: leasesOf(of(5, gen, 3, 3, until), of(6, gen, 2, 2, until))})
}

// TestLeaseThatStays: where the edge has a lease that is not the token's to close, another one of its key is granted by the token, and not put, as chapters 9 and 14 say.
func TestLeaseThatStays(t *testing.T) {
	for _, l := range []lease.Lease{of(5, gen, 2, 1, 60), of(5, gen+1, 2, 1, 60)} {
		e := asked(t, theConf(), request(1, 5, 3))
		put(t, e, l)
		visits(t, tokenOf(rowOf(5, 9, 40)), e, theConf(), behind(rowOf(5, 6, now, to(here, 3))))
		has(t, e, state{[]queue.Item{item(request(1, 5, 3))}, leasesOf(l), []edge.Want{{Key: 5, Amount: 3}}})
	}
}

// TestNotedOfEach: each key that is held is noted once, by what it spent.
func TestNotedOfEach(t *testing.T) {
	e := made(t, theConf())
	estimated(t, e, 5, 9)
	estimated(t, e, 6, 5)
	estimated(t, e, 7, 8)
	estimated(t, e, 8, 3)
	put(t, e, of(5, gen, 6, 1, 60), of(6, gen, 4, 4, 60), of(8, gen-1, 4, 4, 60))
	l := tokenOf(rowOf(5, 0, now, to(here, 6)), rowOf(6, 0, now, to(here, 4)), rowOf(7, 0, now, to(here, 1)), rowOf(8, 0, now, to(here, 4)))
	visits(t, l, e, theConf(), behind(rowOf(5, 1, now, to(here, 4)), rowOf(6, 0, now), rowOf(7, 0, now), rowOf(8, 0, now)))
	has(t, e, state{
		leases: leasesOf(of(5, gen, 4, 0, until)),
		wants:  []edge.Want{{Key: 5, Amount: 4}, {Key: 6, Amount: 4}, {Key: 7, Amount: 8}, {Key: 8, Amount: 3}},
	})
}

// TestSettledAtTheEnd: numbers that run over stay numbers.
func TestSettledAtTheEnd(t *testing.T) {
	c := theConf()
	c.Rates[0] = api.Rate{R: span, B: span}
	e := made(t, c)
	put(t, e, of(5, gen, span, 0, end), of(6, gen, span, span, end))
	l := stamped(tokenOf(rowOf(5, span, 10, to(1, span), to(here, span)), rowOf(6, 0, end, to(here, span))), end-1, end-2, 3)
	l.Table.Start = 0
	want := stamped(tokenOf(rowOf(5, 2*span, end-1, to(1, span)), rowOf(6, 0, end)), end-1, end-2, end-1)
	want.Table.Start = 0
	visitsAt(t, l, e, here, end-1, c, want)
}
