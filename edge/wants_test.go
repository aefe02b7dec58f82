package edge

import (
	"math"
	"testing"

	"annona/api"
)

// H1: keys with items alone, with an estimate alone, and with both, rising, each once.
func TestWants(t *testing.T) {
	e := five(t)
	wants(t, e, fiveIs().wants...)
	fiveIs().is(t, "asked", e)
	// With more of all.
	e = made(t, room(theConf(), 16))
	for _, key := range []int{policy + 1, 3, 9, 0} {
		estimated(t, e, key, 4)
	}
	for i, key := range []int{9, policy + 2, 2, policy + 1, 0, 9, 2, 2} {
		asks(t, e, request(i, key, 2), 0)
	}
	wants(t, e, Want{0, 6}, Want{2, 6}, Want{3, 4}, Want{9, 8}, Want{policy + 1, 6}, Want{policy + 2, 2})
}

// H1: what waits, and the estimate, added; not more than B.
func TestWantsAtMost(t *testing.T) {
	for estimate := range 13 {
		for queued := range 13 {
			for _, b := range []int{9, 13, 14, 20} {
				e := made(t, bursts(b))
				if estimate > 0 {
					estimated(t, e, 5, estimate)
				}
				for i := range queued {
					asks(t, e, classed(request(i, 5, 1), i%3), 0)
				}
				n := min(estimate+queued, b)
				if n == 0 {
					wants(t, e)
					continue
				}
				wants(t, e, Want{5, n})
			}
		}
	}
}

// H1: of each key its own policy's B is the most.
func TestWantsOfPolicies(t *testing.T) {
	e := made(t, bursts(9, 100, 1<<31, 10, 11, 12, 13, 14))
	for i, x := range [][2]int{{5, 9}, {5, 9}, {policy + 5, 90}, {policy + 5, 9}, {2 * policy, 1 << 31}, {7 * policy, 14}, {7 * policy, 14}, {8*policy - 1, 14}} {
		asks(t, e, request(i, x[0], x[1]), 0)
	}
	wants(t, e, Want{5, 9}, Want{policy + 5, 99}, Want{2 * policy, 1 << 31}, Want{7 * policy, 14}, Want{8*policy - 1, 14})
	asks(t, e, request(9, 2*policy, 1), 0)
	asks(t, e, request(10, policy+5, 1), 0)
	asks(t, e, request(11, policy+5, 1), 0)
	wants(t, e, Want{5, 9}, Want{policy + 5, 100}, Want{2 * policy, 1 << 31}, Want{7 * policy, 14}, Want{8*policy - 1, 14})
}

// noted spends of a key's lease by the wallet's own call, so that there is an estimate of whatever key.
func noted(t *testing.T, e *Edge, key, n int) {
	t.Helper()
	grants(t, e, of(key, 7, n, 30), 0)
	if gen, ok := e.Spend(key, n, 0); gen != 7 || !ok {
		t.Fatalf("Spend(%d, %d, 0): %d, %t", key, n, gen, ok)
	}
	closes(t, e, key, 7, n)
}

// H1: a key whose policy has no rate, or a B of 0, and one that is none, isn't wanted, whatever its estimate is.
func TestWantsNothing(t *testing.T) {
	e := made(t, theConf())
	for _, key := range []int{2 * policy, 2*policy + 5, 3*policy - 1, 3 * policy, 7*policy + 5, 8*policy - 1, 8 * policy, -1, -policy, math.MinInt, math.MaxInt} {
		noted(t, e, key, 6)
		wants(t, e)
	}
	noted(t, e, 5, 6)
	noted(t, e, policy, 6)
	wants(t, e, Want{5, 6}, Want{policy, 6})
	big := made(t, bursts(1<<31))
	for _, n := range []int{1 << 31, 1<<31 + 1, end, math.MaxInt} {
		noted(t, big, 5, n)
		asks(t, big, request(1, 5, 1<<31), 0)
		wants(t, big, Want{5, 1 << 31})
		refuses(t, big, 5, api.TableFull, no(1, api.TableFull))
	}
}

// H1: what is wanted is of those that wait then, and of the estimates then.
func TestWantsFollow(t *testing.T) {
	e := asked(t, room(theConf(), 16), waits(request(1, 5, 3), 10), waits(request(2, 5, 2), 20), request(3, policy, 50), waits(request(4, 6, 1), 30))
	wants(t, e, Want{5, 5}, Want{6, 1}, Want{policy, 50})
	expires(t, e, 10, no(1, api.Expired), no(3, api.Expired))
	wants(t, e, Want{5, 2}, Want{6, 1})
	grants(t, e, of(5, 7, 4, 30), 11, yes(2, 7))
	wants(t, e, Want{6, 1})
	closes(t, e, 5, 7, 2)
	wants(t, e, Want{5, 2}, Want{6, 1})
	refuses(t, e, 6, api.TableFull, no(4, api.TableFull))
	wants(t, e, Want{5, 2})
	crashes(t, e)
	wants(t, e)
}
