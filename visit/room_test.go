package visit

import (
	"testing"

	"annona/api"
	"annona/edge"
)

// TestNoRoom: of a new key, with as many rows as the configuration's Keys, or more, and none idle, each one that waits is answered TABLEFULL, in order.
func TestNoRoom(t *testing.T) {
	rows := []api.Row{rowOf(1, 3, 20), rowOf(9, 0, 20, to(1, 2)), rowOf(policy, 100, 12)}
	for room := 1; room <= 3; room++ {
		e := asked(t, theConf(), classed(request(1, 5, 4), 2), request(2, 5, 2), classed(request(3, 5, 2), 2), classed(request(4, 5, 1), 0), request(5, 5, 1))
		visits(t, tokenOf(rows...), e, keys(theConf(), room), behind(rows...), full(4), full(2), full(5), full(1), full(3))
		has(t, e, state{})
	}
	e := asked(t, theConf(), classed(request(1, 5, 4), 2), request(2, 5, 2))
	visits(t, tokenOf(rows...), e, keys(theConf(), 4),
		behind(rows[0], rowOf(5, 3, now, to(here, 6)), rows[1], rows[2]), yes(2, gen), yes(1, gen))
}

// TestSixteenRows: as many as there may be.
func TestSixteenRows(t *testing.T) {
	var rows []api.Row
	for i := range 16 {
		rows = append(rows, rowOf(2*i, 1, 20))
	}
	e := asked(t, theConf(), request(1, 5, 4), request(2, 30, 1))
	want := append([]api.Row(nil), rows...)
	want[15] = rowOf(30, 8, now, to(here, 1))
	visits(t, tokenOf(rows...), e, keys(theConf(), 16), behind(want...), full(1), yes(2, gen))
	has(t, e, state{leases: leasesOf(of(30, gen, 1, 1, until))})
}

// TestRoomOfIdle: with rows that are idle these are gone, and the key has a row. Idle is, with a skew of 2 at 45, what is full since 41 at the latest, and 5 ticks behind Start at the earliest.
func TestRoomOfIdle(t *testing.T) {
	c := keys(theConf(), 2)
	for _, r := range []api.Row{rowOf(1, 9, 41), rowOf(1, 9, 20), rowOf(1, 9, 15), rowOf(9, 9, 15), rowOf(2*policy, 20, 17)} {
		e := asked(t, c, request(1, 5, 4))
		other := rowOf(7, 1, 20, to(1, 2))
		l := tokenOf(r, other)
		if r.Key > other.Key {
			l = tokenOf(other, r)
		}
		visits(t, l, e, c, behind(rowOf(5, 5, now, to(here, 4)), other), yes(1, gen))
	}
	for _, r := range []api.Row{rowOf(1, 9, 42), rowOf(1, 8, 20), rowOf(1, 10, 20), rowOf(1, 9, 14), rowOf(1, 9, 20, to(1, 1)), rowOf(policy, 100, 41)} {
		e := asked(t, c, request(1, 5, 4))
		other := rowOf(0, 1, 20, to(1, 2))
		visits(t, tokenOf(other, r), e, c, behind(other, r), full(1))
		has(t, e, state{})
	}
	// All that are idle are gone, though room for one would do.
	e := asked(t, theConf(), request(1, 5, 4))
	visits(t, tokenOf(rowOf(1, 9, 20), rowOf(2, 9, 30), rowOf(3, 9, 42)), e, keys(theConf(), 3), behind(rowOf(3, 9, 42), rowOf(5, 5, now, to(here, 4))), yes(1, gen))
}

// TestRoomForOneOfTwo: a key that finds room takes it from the next one.
func TestRoomForOneOfTwo(t *testing.T) {
	c := keys(theConf(), 2)
	e := asked(t, c, request(1, 6, 1), request(2, 5, 4), request(3, policy, 5))
	visits(t, tokenOf(rowOf(1, 9, 20), rowOf(7, 1, 20, to(1, 2))), e, c,
		behind(rowOf(5, 5, now, to(here, 4)), rowOf(7, 1, 20, to(1, 2))), yes(2, gen), full(1), full(3))
	has(t, e, state{leases: leasesOf(of(5, gen, 4, 4, until))})
}

// TestRoomOfSettled: a row that the settling left idle is gone too, where no clock is wrong.
func TestRoomOfSettled(t *testing.T) {
	for skew := range 2 {
		c := skewed(keys(theConf(), 1), skew)
		e := asked(t, c, request(1, 6, 1))
		put(t, e, of(5, gen, 4, 0, 60))
		l := tokenOf(rowOf(5, 5, 20, to(here, 4)))
		if skew == 0 {
			visits(t, l, e, c, behind(rowOf(6, 8, now, to(here, 1))), yes(1, gen))
		} else {
			visits(t, l, e, c, behind(rowOf(5, 9, now)), full(1))
		}
	}
}

// TestRowsHaveRoom: a key that has a row needs no room.
func TestRowsHaveRoom(t *testing.T) {
	e := asked(t, theConf(), request(1, 5, 4), request(2, 1, 1))
	visits(t, tokenOf(rowOf(1, 9, 20), rowOf(5, 9, 42), rowOf(6, 9, 42)), e, keys(theConf(), 1),
		behind(rowOf(1, 8, now, to(here, 1)), rowOf(5, 5, now, to(here, 4)), rowOf(6, 9, 42)), yes(2, gen), yes(1, gen))
	// So does one that the node holds.
	e = made(t, theConf())
	put(t, e, of(5, gen, 4, 1, 60))
	visits(t, tokenOf(rowOf(1, 9, 20), rowOf(5, 0, now, to(here, 4))), e, keys(theConf(), 1),
		behind(rowOf(1, 9, 20), rowOf(5, 2, now, to(here, 1))))
}

// TestNoRoomForEstimate: a key that nobody waits for, and that finds no room, gets no lease, answers nobody, and is wanted on.
func TestNoRoomForEstimate(t *testing.T) {
	c := keys(theConf(), 1)
	e := asked(t, c, request(1, 7, 2))
	estimated(t, e, 6, 4)
	rows := []api.Row{rowOf(5, 1, 44)}
	visits(t, tokenOf(rows...), e, c, behind(rows...), full(1))
	has(t, e, state{wants: wants(6, 4)})
	visits(t, tokenOf(), e, c, behind(rowOf(6, 5, now, to(here, 4))))
}

// TestAnswersInOrder: over several keys, granted ones and refused ones between them, each key's by class.
func TestAnswersInOrder(t *testing.T) {
	c := keys(theConf(), 4)
	e := asked(t, c,
		request(10, 8, 1), classed(request(11, 2*policy, 3), 2), classed(request(12, 3, 2), 2), request(13, 6, 4), classed(request(14, 8, 2), 0), request(15, policy, 70),
		request(16, 3, 2), classed(request(17, 2*policy, 1), 0), classed(request(18, 6, 1), 0), request(19, policy+1, 1), classed(request(20, policy, 20), 0), request(21, 1, 9),
		request(22, 2*policy, 30-14), request(23, 8, 9),
	)
	l := tokenOf(rowOf(1, 0, 42), rowOf(6, 7, now), rowOf(policy, 75, now), rowOf(2*policy, 20, 42))
	visits(t, l, e, c,
		behind(rowOf(1, 0, now, to(here, 6)), rowOf(6, 2, now, to(here, 5)), rowOf(policy, 0, now, to(here, 75)), rowOf(2*policy, 0, now, to(here, 20))),
		full(16), full(12), yes(18, gen), yes(13, gen), full(14), full(10), full(23), yes(20, gen), full(19), yes(17, gen), yes(22, gen), yes(11, gen))
	has(t, e, state{
		items(request(15, policy, 70), request(21, 1, 9)),
		leasesOf(of(1, gen, 6, 0, until), of(6, gen, 5, 5, until), of(policy, gen, 75, 20, until), of(2*policy, gen, 20, 20, until)),
		[]edge.Want{{Key: 1, Amount: 9}, {Key: policy, Amount: 70}},
	})
}
