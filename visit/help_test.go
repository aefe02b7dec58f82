package visit

import (
	"math"
	"slices"
	"testing"

	"annona/api"
	"annona/edge"
	"annona/lease"
	"annona/queue"
)

// By the document's words: how great a number, a hop or a generation, and a time, a rate or a burst may be.
const (
	end  = 1 << 62
	most = 1 << 40
	span = 1 << 31
)

// policy is so many times a key's policy, beside which its name stands.
const policy = 65536

// Of the tokens and visits that are written out: the generation, the node that is visited, and the reading; until is until when a lease is granted there.
const (
	gen   = 7
	here  = 2
	now   = 45
	until = 50
)

// theConf is a configuration of three nodes, leases of 5 and stamps of 10, with rates of three policies: B is 9, 100 and 20.
func theConf() api.Conf {
	return api.Conf{
		N: 3, Skew: 2, TTL: 5, Valid: 10, Loss: 20, Hear: 30, Keys: 6, Queue: 16,
		Rates: []api.Rate{{R: 2, B: 9}, {R: 1, B: 100}, {R: 3, B: 20}},
	}
}

// keys is a configuration of so many keys.
func keys(c api.Conf, n int) api.Conf {
	c.Keys = n
	return c
}

// skewed is a configuration of that skew.
func skewed(c api.Conf, n int) api.Conf {
	c.Skew = n
	return c
}

// tokenOf is a token that mints since 10, with these rows, and stamps of two nodes, by which it is valid until 50.
func tokenOf(rows ...api.Row) api.Token {
	return api.Token{Gen: gen, Hop: 3, Stamps: []int{40, 38, -1}, Table: api.Table{Start: 10, Rows: rows}}
}

// behind is such a token behind its visit.
func behind(rows ...api.Row) api.Token {
	t := tokenOf(rows...)
	t.Stamps[here] = now
	return t
}

// stamped is a token with these stamps.
func stamped(t api.Token, l ...int) api.Token {
	t.Stamps = l
	return t
}

// rowOf is a row of these.
func rowOf(key, avail, mark int, out ...api.Lease) api.Row {
	return api.Row{Key: key, Avail: avail, Mark: mark, Out: out}
}

// to is what a node holds.
func to(node, amount int) api.Lease {
	return api.Lease{Node: node, Amount: amount}
}

// of is a lease of which so much is spent.
func of(key, gen, amount, spent, until int) lease.Lease {
	return lease.Lease{Key: key, Gen: gen, Amount: amount, Spent: spent, Until: until}
}

// yes is the answer of who is granted something.
func yes(id, gen int) api.Answer {
	return api.Answer{ID: id, Gen: gen, Reason: api.Granted}
}

// full is the answer of who is refused, since there is no room for its key.
func full(id int) api.Answer {
	return api.Answer{ID: id, Reason: api.TableFull}
}

// request is one of class 1 that waits for 30.
func request(id, key, cost int) api.Request {
	return api.Request{ID: id, Key: key, Cost: cost, Class: 1, Wait: 30}
}

// classed is a request of that class.
func classed(r api.Request, class int) api.Request {
	r.Class = class
	return r
}

// item is how a request waits that was asked at 44.
func item(r api.Request) queue.Item {
	return queue.Item{ID: r.ID, Key: r.Key, Cost: r.Cost, Class: r.Class, Until: 44 + r.Wait}
}

// made is an edge that has nothing.
func made(t *testing.T, c api.Conf) *edge.Edge {
	t.Helper()
	e, err := edge.New(c)
	if e == nil || err != api.OK {
		t.Fatalf("New(%+v): %v, error %d", c, e, err)
	}
	return e
}

// asked is an edge of which these are asked at 44, and wait.
func asked(t *testing.T, c api.Conf, l ...api.Request) *edge.Edge {
	t.Helper()
	e := made(t, c)
	for _, r := range l {
		asks(t, e, r, 44)
	}
	return e
}

// asks holds what a request is answered.
func asks(t *testing.T, e *edge.Edge, r api.Request, now int, want ...api.Answer) {
	t.Helper()
	if got := e.Ask(r, now); !slices.Equal(got, want) {
		t.Fatalf("Ask(%+v, %d): %v, not %v", r, now, got, want)
	}
}

// put gives an edge leases, of which so much is spent as is written there; past its queue and its estimates.
func put(t *testing.T, e *edge.Edge, l ...lease.Lease) {
	t.Helper()
	for _, x := range l {
		if err := e.Put(of(x.Key, x.Gen, x.Amount, 0, x.Until)); err != api.OK {
			t.Fatalf("Put(%+v): %d", x, err)
		}
		if x.Spent == 0 {
			continue
		}
		if g, ok := e.Spend(x.Key, x.Spent, x.Until-1); g != x.Gen || !ok {
			t.Fatalf("Spend of %+v: %d, %t", x, g, ok)
		}
	}
}

// estimated gives an edge an estimate of so much of a key, by a lease that goes again.
func estimated(t *testing.T, e *edge.Edge, key, n int) {
	t.Helper()
	put(t, e, of(key, 1, n, n, 1))
	if got := e.Close(key, 1); got != n {
		t.Fatalf("Close: %d, not %d", got, n)
	}
}

// state is all that an edge tells of itself.
type state struct {
	items  []queue.Item
	leases []lease.Lease
	wants  []edge.Want
}

// stateOf is what it tells now.
func stateOf(e *edge.Edge) state {
	return state{e.Waiting(), e.Leases(), e.Wants()}
}

func sameState(a, b state) bool {
	return slices.Equal(a.items, b.items) && slices.Equal(a.leases, b.leases) && slices.Equal(a.wants, b.wants)
}

// has holds what an edge tells of itself; asked twice, since asking must change nothing.
func has(t *testing.T, e *edge.Edge, want state) {
	t.Helper()
	for range 2 {
		if got := stateOf(e); !sameState(got, want) {
			t.Errorf("the edge is %v, not %v", got, want)
		}
	}
}

func sameRow(a, b api.Row) bool {
	return a.Key == b.Key && a.Avail == b.Avail && a.Mark == b.Mark && slices.Equal(a.Out, b.Out)
}

func sameToken(a, b api.Token) bool {
	return a.Gen == b.Gen && a.Hop == b.Hop && slices.Equal(a.Stamps, b.Stamps) &&
		a.Table.Start == b.Table.Start && slices.EqualFunc(a.Table.Rows, b.Table.Rows, sameRow)
}

// copied is a token with lists of its own.
func copied(t api.Token) api.Token {
	t.Stamps = slices.Clone(t.Stamps)
	t.Table.Rows = slices.Clone(t.Table.Rows)
	for i, r := range t.Table.Rows {
		t.Table.Rows[i].Out = slices.Clone(r.Out)
	}
	return t
}

// visits holds what a visit of node 2 at 45 tells: the token behind it, and the answers. What was handed in must stay.
func visits(t *testing.T, l api.Token, e *edge.Edge, c api.Conf, want api.Token, answers ...api.Answer) api.Token {
	t.Helper()
	return visitsAt(t, l, e, here, now, c, want, answers...)
}

// visitsAt is it at any node and reading.
func visitsAt(t *testing.T, l api.Token, e *edge.Edge, node, now int, c api.Conf, want api.Token, answers ...api.Answer) api.Token {
	t.Helper()
	was, rates := copied(l), slices.Clone(c.Rates)
	got, told, err := Visit(l, e, node, now, c)
	if err != api.OK || !sameToken(got, want) {
		t.Errorf("Visit(%v, %d, %d): error %d,\n%v, not\n%v", was, node, now, err, got, want)
	}
	if !slices.Equal(told, answers) {
		t.Errorf("Visit(%v, %d, %d): %v is answered, not %v", was, node, now, told, answers)
	}
	if !sameToken(l, was) || !slices.Equal(c.Rates, rates) {
		t.Errorf("%v, %v was handed in, and is %v, %v", was, rates, l, c.Rates)
	}
	return got
}

// wrong holds that a visit may not be: it tells ErrArg, and the token as it is, and the edge stays.
func wrong(t *testing.T, name string, l api.Token, e *edge.Edge, node, now int, c api.Conf) {
	t.Helper()
	was, ahead := copied(l), stateOf(e)
	got, told, err := Visit(l, e, node, now, c)
	if err != api.ErrArg || len(told) > 0 {
		t.Errorf("%s: error %d, and %v is answered", name, err, told)
	}
	if !sameToken(got, was) || !sameToken(l, was) {
		t.Errorf("%s: %v is told, and %v stays, not %v", name, got, l, was)
	}
	has(t, e, ahead)
}

// edges are ints at and beside the bounds that the chapter names, and at the ends.
func edges() []int {
	return []int{
		math.MinInt, math.MinInt + 1, -end, -span, -2, -1, 0, 1, 2, 3, 8, 9, 10, 45, 62, 63, 64, 65, policy - 1, policy,
		span - 1, span, span + 1, most - 1, most, most + 1, end - 1, end, end + 1, math.MaxInt - 1, math.MaxInt,
	}
}

// draw is a fixed rule's next, below n: the same ones each time.
func draw(x *uint64, n int) int {
	*x = *x*6364136223846793005 + 1442695040888963407
	return int(*x >> 33 % uint64(n))
}

// drawNear is mostly from 0 to most, now and then one of the edges.
func drawNear(x *uint64, most int) int {
	if draw(x, 30) == 0 {
		l := edges()
		return l[draw(x, len(l))]
	}
	return draw(x, most+1)
}

// leasesOf is a list of leases.
func leasesOf(l ...lease.Lease) []lease.Lease {
	return l
}
