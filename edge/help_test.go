package edge

import (
	"math"
	"slices"
	"testing"

	"annona/api"
	"annona/lease"
	"annona/queue"
)

// end is how great a number may be, by the document's words.
const end = 1 << 62

// policy is so many times a key's policy, beside which its name stands.
const policy = 65536

// theConf is a configuration with room for 4, and rates of three policies: B is 9, 100 and 0.
func theConf() api.Conf {
	return api.Conf{
		N: 5, Skew: 4, TTL: 3, Valid: 6, Loss: 20, Hear: 30, Keys: 8, Queue: 4,
		Rates: []api.Rate{{R: 2, B: 9}, {R: 1, B: 100}, {R: 3, B: 0}},
	}
}

// room is a configuration with another room.
func room(c api.Conf, n int) api.Conf {
	c.Queue = n
	return c
}

// bursts is a configuration with rates of these B, and room for 16.
func bursts(l ...int) api.Conf {
	c := room(theConf(), 16)
	c.Rates = nil
	for i, b := range l {
		c.Rates = append(c.Rates, api.Rate{R: i, B: b})
	}
	return c
}

// made is a new edge, that must be there.
func made(t *testing.T, c api.Conf) *Edge {
	t.Helper()
	e, err := New(c)
	if e == nil || err != api.OK {
		t.Fatalf("New(%+v): %v, error %d", c, e, err)
	}
	return e
}

// request is one of class 1 that waits for 10.
func request(id, key, cost int) api.Request {
	return api.Request{ID: id, Key: key, Cost: cost, Class: 1, Wait: 10}
}

// classed is a request of that class.
func classed(r api.Request, class int) api.Request {
	r.Class = class
	return r
}

// waits is a request that waits for so long.
func waits(r api.Request, wait int) api.Request {
	r.Wait = wait
	return r
}

// item is how a request waits until then.
func item(r api.Request, until int) queue.Item {
	return queue.Item{ID: r.ID, Key: r.Key, Cost: r.Cost, Class: r.Class, Until: until}
}

// of is a lease of which nothing is spent.
func of(key, gen, amount, until int) lease.Lease {
	return lease.Lease{Key: key, Gen: gen, Amount: amount, Until: until}
}

// spent is a lease of which so much is spent.
func spent(l lease.Lease, n int) lease.Lease {
	l.Spent = n
	return l
}

// yes is the answer of who is granted something.
func yes(id, gen int) api.Answer {
	return api.Answer{ID: id, Gen: gen, Reason: api.Granted}
}

// no is the answer of who is denied.
func no(id int, why api.Reason) api.Answer {
	return api.Answer{ID: id, Reason: why}
}

// nos are the answers of several who are denied.
func nos(why api.Reason, ids ...int) []api.Answer {
	var l []api.Answer
	for _, id := range ids {
		l = append(l, no(id, why))
	}
	return l
}

// asks holds what Ask answers.
func asks(t *testing.T, e *Edge, r api.Request, now int, want ...api.Answer) {
	t.Helper()
	if got := e.Ask(r, now); !slices.Equal(got, want) {
		t.Errorf("Ask(%+v, %d): %v, not %v", r, now, got, want)
	}
}

// grants holds what Grant answers.
func grants(t *testing.T, e *Edge, l lease.Lease, now int, want ...api.Answer) {
	t.Helper()
	if got := e.Grant(l, now); !slices.Equal(got, want) {
		t.Errorf("Grant(%+v, %d): %v, not %v", l, now, got, want)
	}
}

// closes holds what Close tells.
func closes(t *testing.T, e *Edge, key, gen, want int) {
	t.Helper()
	if got := e.Close(key, gen); got != want {
		t.Errorf("Close(%d, %d): %d, not %d", key, gen, got, want)
	}
}

// expires holds what Expire answers.
func expires(t *testing.T, e *Edge, now int, want ...api.Answer) {
	t.Helper()
	if got := e.Expire(now); !slices.Equal(got, want) {
		t.Errorf("Expire(%d): %v, not %v", now, got, want)
	}
}

// refuses holds what Refuse answers.
func refuses(t *testing.T, e *Edge, key int, why api.Reason, want ...api.Answer) {
	t.Helper()
	if got := e.Refuse(key, why); !slices.Equal(got, want) {
		t.Errorf("Refuse(%d, %d): %v, not %v", key, why, got, want)
	}
}

// crashes holds what Crash answers.
func crashes(t *testing.T, e *Edge, want ...api.Answer) {
	t.Helper()
	if got := e.Crash(); !slices.Equal(got, want) {
		t.Errorf("Crash: %v, not %v", got, want)
	}
}

// waiting holds which items there are; asked twice, since asking must change nothing.
func waiting(t *testing.T, e *Edge, want ...queue.Item) {
	t.Helper()
	for range 2 {
		if got := e.Waiting(); !slices.Equal(got, want) {
			t.Errorf("Waiting: %v, not %v", got, want)
		}
	}
}

// leases holds which leases there are; asked twice, since asking must change nothing.
func leases(t *testing.T, e *Edge, want ...lease.Lease) {
	t.Helper()
	for range 2 {
		if got := e.Leases(); !slices.Equal(got, want) {
			t.Errorf("Leases: %v, not %v", got, want)
		}
	}
}

// wants holds what is wanted; asked twice, since asking must change nothing.
func wants(t *testing.T, e *Edge, want ...Want) {
	t.Helper()
	for range 2 {
		if got := e.Wants(); !slices.Equal(got, want) {
			t.Errorf("Wants: %v, not %v", got, want)
		}
	}
}

// state is all that an edge tells of itself.
type state struct {
	items  []queue.Item
	leases []lease.Lease
	wants  []Want
}

// stateOf is what it tells now, in lists of its own.
func stateOf(e *Edge) state {
	return state{slices.Clone(e.Waiting()), slices.Clone(e.Leases()), slices.Clone(e.Wants())}
}

// is holds that an edge tells this of itself.
func (s state) is(t *testing.T, name string, e *Edge) {
	t.Helper()
	got := stateOf(e)
	if !slices.Equal(got.items, s.items) || !slices.Equal(got.leases, s.leases) || !slices.Equal(got.wants, s.wants) {
		t.Errorf("%s: it is %v, not %v", name, got, s)
	}
}

// estimated gives an edge an estimate of so much of a key, by a lease that goes again.
func estimated(t *testing.T, e *Edge, key, n int) {
	t.Helper()
	grants(t, e, of(key, 1, n, 1), 0)
	for left := n; left > 0; left -= 9 {
		asks(t, e, request(-1000, key, min(left, 9)), 0, yes(-1000, 1))
	}
	closes(t, e, key, 1, n)
}

// asked is an edge of which these are asked at 0, and wait.
func asked(t *testing.T, c api.Conf, l ...api.Request) *Edge {
	t.Helper()
	e := made(t, c)
	for _, r := range l {
		asks(t, e, r, 0)
	}
	return e
}

// theFive are requests of three keys, that wait in no order of names, keys, classes or times.
func theFive() []api.Request {
	return []api.Request{
		waits(classed(request(8, 5, 3), 2), 30),
		waits(classed(request(-2, 6, 9), 1), 20),
		waits(classed(request(4, 5, 1), 0), 40),
		waits(classed(request(11, 5, 7), 2), 10),
		waits(classed(request(0, policy+5, 60), 0), 25),
	}
}

// theItems are how they wait, asked at 0.
func theItems() []queue.Item {
	var l []queue.Item
	for _, r := range theFive() {
		l = append(l, item(r, r.Wait))
	}
	return l
}

// five is an edge with room for 16, at which they wait, with estimates of 2 of key 6 and of 7 of key 7, and leases of keys 7 and 9.
func five(t *testing.T) *Edge {
	t.Helper()
	e := made(t, room(theConf(), 16))
	toFive(t, e)
	return e
}

// toFive makes five of an edge that has nothing, with that configuration.
func toFive(t *testing.T, e *Edge) {
	t.Helper()
	estimated(t, e, 6, 2)
	estimated(t, e, 7, 7)
	grants(t, e, of(7, 3, 8, 50), 0)
	grants(t, e, of(9, 2, 8, 50), 0)
	asks(t, e, request(-1000, 9, 5), 0, yes(-1000, 2))
	for _, r := range theFive() {
		asks(t, e, r, 0)
	}
}

// fiveIs is what five tells of itself.
func fiveIs() state {
	return state{
		theItems(),
		[]lease.Lease{of(7, 3, 8, 50), spent(of(9, 2, 8, 50), 5)},
		[]Want{{5, 9}, {6, 9}, {7, 7}, {policy + 5, 60}},
	}
}

// edges are ints at and beside all bounds that the chapter names, and at the ends.
func edges() []int {
	return []int{
		math.MinInt, math.MinInt + 1, -end, -2, -1, 0, 1, 2, 3, 8, 9, 10, 16, 17, policy - 1, policy, 8*policy - 1, 8 * policy,
		1<<31 - 1, 1 << 31, 1<<31 + 1, 1<<40 - 1, 1 << 40, 1<<40 + 1, end - 1, end, end + 1, math.MaxInt - 1, math.MaxInt,
	}
}

// draw is a fixed rule's next, below n: the same ones each time.
func draw(x *uint64, n int) int {
	*x = *x*6364136223846793005 + 1442695040888963407
	return int(*x >> 33 % uint64(n))
}

// drawNear is mostly from 0 to most, now and then beside them, or one of the edges.
func drawNear(x *uint64, most int) int {
	switch draw(x, 48) {
	case 0:
		l := edges()
		return l[draw(x, len(l))]
	case 1:
		return -1 - draw(x, 2)
	}
	return draw(x, most+1)
}
