package visit

import (
	"slices"
	"testing"

	"annona/api"
)

// sized is a configuration of so many nodes.
func sized(n int) api.Conf {
	c := theConf()
	c.N = n
	return c
}

// only holds that a visit puts the stamp, and does nothing else.
func only(t *testing.T, l api.Token, node, at int, c api.Conf) {
	t.Helper()
	e := busy(t)
	ahead := stateOf(e)
	want := copied(l)
	want.Stamps[node] = at
	visitsAt(t, l, e, node, at, c, want)
	has(t, e, ahead)
}

// more holds that a visit does more than put the stamp.
func more(t *testing.T, l api.Token, node, at int, c api.Conf) {
	t.Helper()
	e := busy(t)
	ahead := stateOf(e)
	got, _, err := Visit(l, e, node, at, c)
	if err != api.OK || len(got.Table.Rows) < 4 || got.Stamps[node] != at || sameState(stateOf(e), ahead) {
		t.Errorf("N %d, stamps %v, node %d, at %d: error %d, and nothing is done: %v", c.N, l.Stamps, node, at, err, got)
	}
}

// TestTooFewStamps: a token that no majority stamped gets its stamp, and nothing else is done.
func TestTooFewStamps(t *testing.T) {
	only(t, stamped(holding(), -1, -1, -1), here, now, sized(3))
	only(t, stamped(holding(), -1, -1, now), here, now, sized(3))
	more(t, stamped(holding(), -1, now, -1), here, now, sized(3))
	only(t, stamped(holding(), -1, -1), 1, now, sized(2))
	more(t, stamped(holding(), now, -1), 1, now, sized(2))
	more(t, stamped(holding(), -1), 0, now, sized(1))
	for _, n := range []int{4, 5, 33, 63, 64} {
		l := slices.Repeat([]int{-1}, n)
		// With the visit's own one as many as are half of them, or one fewer than a majority.
		for i := range (n+2)/2 - 2 {
			l[i] = now
		}
		only(t, stamped(holding(), slices.Clone(l)...), n-1, now, sized(n))
		l[n-2] = now
		more(t, stamped(holding(), slices.Clone(l)...), n-1, now, sized(n))
		// Its own one counts once, also where it had one.
		l[n-2], l[n-1] = -1, now
		only(t, stamped(holding(), slices.Clone(l)...), n-1, now, sized(n))
	}
}

// TestStampsTooOld: for Valid of 10, a majority that is just old enough, and one that is too old by one.
func TestStampsTooOld(t *testing.T) {
	more(t, stamped(holding(), -1, now-10, -1), here, now, sized(3))
	only(t, stamped(holding(), -1, now-11, -1), here, now, sized(3))
	more(t, stamped(holding(), 3, now-10, 44), here, now, sized(3))
	only(t, stamped(holding(), 3, now-11, 44), here, now, sized(3))
	more(t, stamped(holding(), now-10, -1), 1, now, sized(2))
	only(t, stamped(holding(), now-11, -1), 1, now, sized(2))
	// Of one node the visit's own stamp is a majority, however old the one ahead was.
	for _, x := range []int{-1, 0, now - 11, now, now + 11, end - 1} {
		more(t, stamped(holding(), x), 0, now, sized(1))
	}
	for _, n := range []int{4, 63, 64} {
		l := slices.Repeat([]int{now - 11}, n)
		m := n/2 + 1
		for i := range m - 2 {
			l[i] = now
		}
		only(t, stamped(holding(), slices.Clone(l)...), n-1, now, sized(n))
		l[m-2] = now - 10
		more(t, stamped(holding(), slices.Clone(l)...), n-1, now, sized(n))
	}
}

// TestStampsAhead: stamps that are above the reading count, as chapter 10 says, and the visit's own one goes back.
func TestStampsAhead(t *testing.T) {
	more(t, stamped(holding(), 900, -1, -1), here, now, sized(3))
	more(t, stamped(holding(), end-1, end-1, end-1), here, now, sized(3))
	only(t, stamped(holding(), -1, 20, 900), here, now, sized(3))
	only(t, stamped(holding(), -1, -1, end-1), here, 0, sized(3))
}

// TestSpanOfStamps: the configuration's Valid says how old.
func TestSpanOfStamps(t *testing.T) {
	for _, v := range []int{1, 2, 40, 45} {
		c := sized(3)
		c.Valid = v
		more(t, stamped(holding(), -1, now-v, -1), here, now, c)
		if v < now {
			only(t, stamped(holding(), -1, now-v-1, -1), here, now, c)
		}
	}
	c := sized(3)
	c.Valid = span
	more(t, stamped(holding(), 7, -1, -1), here, span+7, c)
	only(t, stamped(holding(), 6, -1, -1), here, span+7, c)
	c.Valid, c.TTL, c.Loss, c.Hear = 44, span, span, span
	only(t, stamped(holding(), 0, -1, -1), here, now, c)
}

// TestStampAlone: a token that no majority stamped, at an edge that has nothing.
func TestStampAlone(t *testing.T) {
	visitsAt(t, stamped(tokenOf(), -1, -1, -1), made(t, theConf()), 1, 0, theConf(), stamped(tokenOf(), -1, 0, -1))
	visitsAt(t, stamped(tokenOf(), -1, 30, -1), made(t, theConf()), 1, 7, theConf(), stamped(tokenOf(), -1, 7, -1))
	visitsAt(t, stamped(tokenOf(), 3, 30, 9), made(t, theConf()), 0, 45, theConf(), stamped(tokenOf(), 45, 30, 9))
	// A valid one too, if there is nothing to be settled, and nothing is wanted.
	l := tokenOf(rowOf(4, 9, 20), rowOf(5, 1, 40, to(1, 2)))
	visits(t, l, made(t, theConf()), theConf(), stamped(l, 40, 38, now))
}
