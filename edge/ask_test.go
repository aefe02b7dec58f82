package edge

import (
	"math"
	"slices"
	"testing"

	"annona/api"
)

// rich is an edge with room for 4, and leases of generation 7 of keys 5, 6, 65541, 131077, 196613 and -1, of which more is left, and longer, than anybody asks.
func rich(t *testing.T) *Edge {
	t.Helper()
	e := made(t, theConf())
	for _, key := range []int{5, 6, policy + 5, 2*policy + 5, 3*policy + 5, -1, 8 * policy} {
		grants(t, e, of(key, 7, math.MaxInt, math.MaxInt), 0)
	}
	return e
}

// turned is a request that is turned.
func turned(r api.Request, turn func(*api.Request)) api.Request {
	turn(&r)
	return r
}

// malformed are requests that may not be, each by one of its ints; r may be.
func malformed(r api.Request) []api.Request {
	var l []api.Request
	for _, x := range []int{0, -1, -2, -end, math.MinInt + 1, math.MinInt} {
		l = append(l, turned(r, func(r *api.Request) { r.Cost = x }))
	}
	for _, x := range []int{-1, 3, -2, 4, 1<<32 + 1, end, math.MinInt, math.MaxInt} {
		l = append(l, turned(r, func(r *api.Request) { r.Class = x }))
	}
	for _, x := range []int{-1, 1<<40 + 1, -2, 1<<40 + 2, -end, end, math.MinInt, math.MaxInt} {
		l = append(l, turned(r, func(r *api.Request) { r.Wait = x }))
	}
	for _, x := range []int{-1, 8 * policy, -5, 8*policy + 5, 1<<32 + 5, end, math.MinInt, math.MaxInt} {
		l = append(l, turned(r, func(r *api.Request) { r.Key = x }))
	}
	return l
}

// H1, 1: MALFORMED, ahead of all else, and nothing is changed.
func TestMalformed(t *testing.T) {
	for name, e := range map[string]*Edge{"rich": rich(t), "five": five(t), "new": made(t, theConf()), "full": asked(t, room(theConf(), 1), request(9, 7, 1))} {
		was := stateOf(e)
		for _, r := range []api.Request{request(1, 5, 2), request(math.MinInt, 5, 200), request(1, 3*policy, 2), waits(request(1, 5, 2), 0)} {
			for _, bad := range malformed(r) {
				for _, now := range []int{0, 7, -1, end - 1, end, math.MinInt, math.MaxInt} {
					asks(t, e, bad, now, no(bad.ID, api.Malformed))
				}
			}
		}
		was.is(t, name, e)
	}
}

// H1, 1: what is just not malformed.
func TestNotMalformed(t *testing.T) {
	for _, id := range edges() {
		for class := range 3 {
			for _, wait := range []int{0, 1, 1<<40 - 1, 1 << 40} {
				e := rich(t)
				r := waits(classed(request(id, 5, 1), class), wait)
				asks(t, e, r, 3, yes(id, 7))
				r.Key = 7
				if wait == 0 {
					asks(t, e, r, 3, no(id, api.NoCredit))
					continue
				}
				asks(t, e, r, 3)
				waiting(t, e, item(r, 3+wait))
			}
		}
	}
	c := bursts(9, 9, 9, 9, 9, 9, 9, 9)
	for _, key := range []int{0, 1, policy - 1, policy, 2 * policy, 7 * policy, 8*policy - 1} {
		e := made(t, c)
		asks(t, e, request(1, key, 9), 3)
		waiting(t, e, item(request(1, key, 9), 13))
		asks(t, e, request(2, key, 10), 3, no(2, api.OverBurst))
	}
	asks(t, rich(t), request(1, 8*policy-1, 1), 3, no(1, api.Unknown))
}

// H1, 1: MALFORMED, if one waits that has its name, also of another key, class, cost and wait, ahead of all else.
func TestNameThatWaits(t *testing.T) {
	e := five(t)
	for _, r := range theFive() {
		for _, other := range []api.Request{
			r, waits(r, 0), request(r.ID, 7, 1), request(r.ID, 9, 1), request(r.ID, 8, 200), request(r.ID, 3*policy, 1), request(r.ID, policy+5, 1), {ID: r.ID},
		} {
			for _, now := range []int{0, 5, r.Wait - 1, r.Wait, r.Wait + 100, -1, end, math.MaxInt} {
				asks(t, e, other, now, no(r.ID, api.Malformed))
			}
		}
	}
	fiveIs().is(t, "asked", e)
	full := asked(t, room(theConf(), 1), request(1, 5, 2))
	asks(t, full, request(1, 5, 2), 0, no(1, api.Malformed))
	asks(t, full, waits(request(1, 6, 2), 0), 0, no(1, api.Malformed))
	asks(t, full, request(2, 5, 2), 0, no(2, api.QueueFull))
}

// H1, 1: a name that doesn't wait any more, or never did, may be asked again.
func TestNameAgain(t *testing.T) {
	r := request(1, 5, 2)
	for name, gone := range map[string]func(*Edge){
		"granted": func(e *Edge) { grants(t, e, of(5, 7, 2, 30), 0, yes(1, 7)) },
		"expired": func(e *Edge) { expires(t, e, 10, no(1, api.Expired)) },
		"refused": func(e *Edge) { refuses(t, e, 5, api.TableFull, no(1, api.TableFull)) },
		"crashed": func(e *Edge) { crashes(t, e, no(1, api.Restarted)) },
	} {
		e := asked(t, theConf(), r)
		asks(t, e, r, 0, no(1, api.Malformed))
		gone(e)
		asks(t, e, r, 20)
		waiting(t, e, item(r, 30))
		if t.Failed() {
			t.Fatal(name)
		}
	}
	e := rich(t)
	for range 3 {
		asks(t, e, request(1, 5, 2), 0, yes(1, 7))
		asks(t, e, request(1, 5, 10), 0, no(1, api.OverBurst))
		asks(t, e, request(1, 5, 0), 0, no(1, api.Malformed))
		asks(t, e, waits(request(1, 7, 2), 0), 0, no(1, api.NoCredit))
	}
}

// H1, 2: NOCREDIT at a reading that is none, whatever there is, and ahead of what comes behind it; nothing is changed.
func TestNoReading(t *testing.T) {
	for name, e := range map[string]*Edge{"rich": rich(t), "five": five(t), "new": made(t, theConf()), "full": asked(t, room(theConf(), 1), request(9, 7, 1))} {
		was := stateOf(e)
		for _, now := range []int{-1, end, -2, end + 1, -end, math.MinInt, math.MinInt + 1, math.MaxInt - 1, math.MaxInt} {
			for _, r := range []api.Request{
				request(1, 5, 2), waits(request(1, 5, 2), 0), request(1, 5, 10), request(1, 3*policy, 2), request(1, 2*policy, 2), waits(request(1, policy, 100), 1<<40),
			} {
				asks(t, e, r, now, no(1, api.NoCredit))
			}
		}
		was.is(t, name, e)
	}
}

// H1, 2: not for that at the first and at the last reading.
func TestReadings(t *testing.T) {
	for _, now := range []int{0, 1, 1 << 40, end - 2, end - 1} {
		e := rich(t)
		asks(t, e, request(1, 5, 2), now, yes(1, 7))
		asks(t, e, request(1, 5, 10), now, no(1, api.OverBurst))
		asks(t, e, request(1, 3*policy, 2), now, no(1, api.Unknown))
		asks(t, e, waits(request(1, 7, 2), 1), now)
		waiting(t, e, item(request(1, 7, 2), now+1))
	}
}

// H1, 3: UNKNOWN of a key whose policy has no rate, whatever it costs, and whatever there is.
func TestUnknown(t *testing.T) {
	for name, e := range map[string]*Edge{"rich": rich(t), "new": made(t, theConf()), "full": asked(t, room(theConf(), 1), request(9, 7, 1))} {
		was := stateOf(e)
		for _, key := range []int{3 * policy, 3*policy + 5, 4*policy - 1, 4 * policy, 7 * policy, 8*policy - 1} {
			for _, cost := range []int{1, 9, 1000, end, math.MaxInt} {
				asks(t, e, request(1, key, cost), 0, no(1, api.Unknown))
				asks(t, e, waits(request(1, key, cost), 0), 5, no(1, api.Unknown))
			}
		}
		was.is(t, name, e)
	}
}

// H1, 3: OVERBURST above B, whatever there is; at B not.
func TestOverBurst(t *testing.T) {
	for name, e := range map[string]*Edge{"rich": rich(t), "new": made(t, theConf()), "full": asked(t, room(theConf(), 1), request(9, 7, 1))} {
		was := stateOf(e)
		for _, x := range [][2]int{{5, 10}, {5, 11}, {5, 100}, {5, math.MaxInt}, {policy + 5, 101}, {policy + 5, end}, {2*policy + 5, 1}, {2*policy + 5, 2}} {
			asks(t, e, request(1, x[0], x[1]), 0, no(1, api.OverBurst))
			asks(t, e, waits(request(1, x[0], x[1]), 0), 5, no(1, api.OverBurst))
		}
		was.is(t, name, e)
	}
	e := rich(t)
	asks(t, e, request(1, 5, 9), 0, yes(1, 7))
	asks(t, e, request(2, policy+5, 100), 0, yes(2, 7))
	asks(t, e, request(3, 7, 9), 0)
	asks(t, e, request(4, policy+6, 100), 0)
	big := made(t, bursts(1<<31, 0))
	asks(t, big, request(1, 5, 1<<31), 0)
	asks(t, big, request(2, 5, 1<<31+1), 0, no(2, api.OverBurst))
	asks(t, big, request(3, policy, 1), 0, no(3, api.OverBurst))
}

// H1, 4: GRANTED, with the lease's generation, ahead of the lease's Until, of what is left.
func TestGranted(t *testing.T) {
	e := made(t, theConf())
	grants(t, e, of(5, 7, 9, 30), 0)
	grants(t, e, of(6, 1<<40, 5, 20), 0)
	asks(t, e, request(1, 5, 3), 0, yes(1, 7))
	asks(t, e, classed(request(2, 5, 2), 2), 29, yes(2, 7))
	asks(t, e, waits(request(3, 6, 5), 0), 19, yes(3, 1<<40))
	leases(t, e, spent(of(5, 7, 9, 30), 5), spent(of(6, 1<<40, 5, 20), 5))
	waiting(t, e)
	// Not with one more than is left, but with all of it.
	asks(t, e, waits(request(4, 5, 5), 0), 29, no(4, api.NoCredit))
	asks(t, e, waits(request(5, 6, 1), 0), 19, no(5, api.NoCredit))
	asks(t, e, waits(request(4, 5, 4), 0), 29, yes(4, 7))
	asks(t, e, waits(request(6, 5, 1), 0), 29, no(6, api.NoCredit))
	leases(t, e, spent(of(5, 7, 9, 30), 9), spent(of(6, 1<<40, 5, 20), 5))
}

// H1, 4: at the lease's Until nothing is granted, and behind it neither.
func TestNotAtUntil(t *testing.T) {
	for _, until := range []int{0, 1, 30, end - 1, end, math.MaxInt} {
		e := made(t, theConf())
		grants(t, e, of(5, 7, 9, until), 0)
		for _, now := range []int{until, until + 1, until + 100} {
			if now < 0 || now >= end {
				continue
			}
			asks(t, e, waits(request(1, 5, 1), 0), now, no(1, api.NoCredit))
		}
		leases(t, e, of(5, 7, 9, until))
		for _, now := range []int{until - 1, 0} {
			if now < 0 || now >= end || until == 0 {
				continue
			}
			asks(t, e, waits(request(1, 5, 1), 0), now, yes(1, 7))
		}
	}
	e := made(t, theConf())
	grants(t, e, of(5, 7, 9, 30), 0)
	asks(t, e, request(1, 5, 1), 30)
	waiting(t, e, item(request(1, 5, 1), 40))
}

// H1, 4: another key's lease grants nothing.
func TestOtherKeysLease(t *testing.T) {
	e := made(t, theConf())
	for _, key := range []int{4, 6, 0, policy + 5, 2*policy + 5, -5, 8*policy + 5} {
		grants(t, e, of(key, 7, 9, 30), 0)
	}
	was := e.Leases()
	asks(t, e, waits(request(1, 5, 1), 0), 0, no(1, api.NoCredit))
	leases(t, e, was...)
}

// H1, 4: as long as somebody of its key waits, of whatever class, nobody else of it is granted; one of another key holds nobody back.
func TestSomebodyWaits(t *testing.T) {
	for first := range 3 {
		for second := range 3 {
			e := made(t, theConf())
			a, b := classed(request(1, 5, 6), first), classed(request(2, 5, 1), second)
			asks(t, e, a, 0)
			grants(t, e, of(5, 7, 5, 30), 0)
			grants(t, e, of(6, 8, 5, 30), 0)
			asks(t, e, waits(b, 0), 1, no(2, api.NoCredit))
			asks(t, e, b, 1)
			asks(t, e, classed(request(3, 6, 4), second), 1, yes(3, 8))
			waiting(t, e, item(a, 10), item(b, 11))
			leases(t, e, of(5, 7, 5, 30), spent(of(6, 8, 5, 30), 4))
		}
	}
	// One that waited, and does no more, holds nobody back; till it goes, it does, though its time is over.
	e := asked(t, theConf(), request(1, 5, 6))
	grants(t, e, of(5, 7, 5, 30), 0)
	asks(t, e, waits(request(2, 5, 1), 0), 11, no(2, api.NoCredit))
	expires(t, e, 11, no(1, api.Expired))
	asks(t, e, waits(request(2, 5, 1), 0), 11, yes(2, 7))
	asks(t, e, request(3, policy, 1), 11)
	asks(t, e, waits(request(4, 5, 1), 0), 11, yes(4, 7))
}

// H1, 5: NOCREDIT of who doesn't wait, also where there is no room; QUEUEFULL of who would; nothing is changed.
func TestDenied(t *testing.T) {
	for n := range 17 {
		e := made(t, room(theConf(), n))
		for i := range n {
			asks(t, e, waits(request(100+i, 5, 1), 0), 0, no(100+i, api.NoCredit))
			asks(t, e, request(i, 5+i%3, 1), 0)
		}
		was := stateOf(e)
		if len(was.items) != n {
			t.Errorf("%d wait, not %d", len(was.items), n)
		}
		for _, key := range []int{5, 6, policy} {
			asks(t, e, waits(request(50, key, 1), 0), 0, no(50, api.NoCredit))
			asks(t, e, waits(request(50, key, 1), 1), 0, no(50, api.QueueFull))
			asks(t, e, waits(request(50, key, 1), 1<<40), 0, no(50, api.QueueFull))
		}
		was.is(t, "denied", e)
		// Who is granted needs no room.
		grants(t, e, of(8, 7, 3, 30), 0)
		asks(t, e, request(51, 8, 3), 0, yes(51, 7))
	}
}

// H1, 5: without room nobody ever waits, and leases are spent all the same.
func TestNoRoom(t *testing.T) {
	e := made(t, room(theConf(), 0))
	asks(t, e, request(1, 5, 1), 0, no(1, api.QueueFull))
	asks(t, e, waits(request(1, 5, 1), 0), 0, no(1, api.NoCredit))
	grants(t, e, of(5, 7, 3, 30), 0)
	asks(t, e, request(1, 5, 2), 0, yes(1, 7))
	asks(t, e, request(1, 5, 2), 0, no(1, api.QueueFull))
	asks(t, e, request(1, 5, 1), 0, yes(1, 7))
	crashes(t, e)
	asks(t, e, request(1, 5, 1), 0, no(1, api.QueueFull))
	waiting(t, e)
}

// H1, 5: where there is room again, one waits.
func TestRoomAgain(t *testing.T) {
	e := asked(t, room(theConf(), 2), request(1, 5, 1), request(2, 6, 1))
	asks(t, e, request(3, 7, 1), 0, no(3, api.QueueFull))
	refuses(t, e, 5, api.TableFull, no(1, api.TableFull))
	asks(t, e, request(3, 7, 1), 0)
	asks(t, e, request(4, 7, 1), 0, no(4, api.QueueFull))
	grants(t, e, of(6, 7, 1, 30), 0, yes(2, 7))
	asks(t, e, request(4, 7, 1), 5)
	expires(t, e, 10, no(3, api.Expired))
	asks(t, e, request(5, 7, 1), 5)
	asks(t, e, request(6, 7, 1), 5, no(6, api.QueueFull))
	crashes(t, e, nos(api.Restarted, 4, 5)...)
	for id := range 2 {
		asks(t, e, request(id, 7, 1), 5)
	}
	asks(t, e, request(6, 7, 1), 5, no(6, api.QueueFull))
}

// H1, 6: who waits is an item, with its ID, Key, Cost and Class, until the reading and its Wait, added as numbers are.
func TestWaits(t *testing.T) {
	for _, x := range [][3]int{
		{0, 1, 1}, {0, 10, 10}, {7, 1, 8}, {7, 30, 37}, {100, 1 << 40, 1<<40 + 100},
		{end - 1, 1, end}, {end - 1, 2, end}, {end - 1, 1 << 40, end}, {end - 2, 1, end - 1}, {end - 2, 2, end},
		{end - 1<<40, 1 << 40, end}, {end - 1<<40 - 1, 1 << 40, end - 1}, {end - 1<<40 + 1, 1 << 40, end},
	} {
		for class := range 3 {
			r := api.Request{ID: -9, Key: policy + 5, Cost: 77, Class: class, Wait: x[1]}
			e := made(t, theConf())
			asks(t, e, r, x[0])
			waiting(t, e, item(r, x[2]))
			expires(t, e, x[2]-1)
			waiting(t, e, item(r, x[2]))
			expires(t, e, x[2], no(-9, api.Expired))
		}
	}
	waiting(t, five(t), theItems()...)
}

// grade is a request that something is said against, and what.
type grade struct {
	r   api.Request
	now int
	why api.Reason
}

// H1: where several of the six are so, the first one is told.
func TestFirstOfSeveral(t *testing.T) {
	const ok, none = 5, 3 * policy // a key with a rate, and one without
	for i, x := range []grade{
		{request(1, -1, 0), -1, api.Malformed},
		{request(1, none, 0), 0, api.Malformed},
		{classed(request(1, ok, 10), 3), 0, api.Malformed},
		{waits(request(1, ok, 1), -1), 0, api.Malformed},
		{waits(classed(request(1, ok, 1), -1), 0), 0, api.Malformed},
		{request(9, ok, 1), end, api.Malformed},
		{request(9, none, 1), 0, api.Malformed},
		{request(9, ok, 10), 0, api.Malformed},
		{request(1, none, 1), -1, api.NoCredit},
		{request(1, ok, 10), end, api.NoCredit},
		{request(1, ok, 1), end, api.NoCredit},
		{request(1, none, 1000), 0, api.Unknown},
		{waits(request(1, none, 1), 0), 0, api.Unknown},
		{waits(request(1, ok, 10), 0), 0, api.OverBurst},
		{request(1, ok, 10), 0, api.OverBurst},
		{waits(request(1, 7, 1), 0), 0, api.NoCredit},
		{request(1, 7, 1), 0, api.QueueFull},
	} {
		// Leases of ok and none, one that waits of another key, and no room.
		e := asked(t, room(theConf(), 1), request(9, 7, 1))
		grants(t, e, of(ok, 7, 1000, math.MaxInt), 0)
		grants(t, e, of(none, 7, 1000, math.MaxInt), 0)
		was := stateOf(e)
		got := e.Ask(x.r, x.now)
		if !slices.Equal(got, []api.Answer{no(x.r.ID, x.why)}) {
			t.Errorf("row %d: %v, not %d", i, got, x.why)
		}
		was.is(t, "denied", e)
	}
}
