package visit

import (
	"math"
	"testing"

	"annona/api"
	"annona/edge"
)

// busy is an edge at which a visit of holding would change all that it has: it has leases of this generation, of a lesser and of a greater one, who waits, and estimates.
func busy(t *testing.T) *edge.Edge {
	t.Helper()
	e := asked(t, theConf(), request(1, 5, 3), request(2, policy, 60), classed(request(3, 5, 2), 0))
	estimated(t, e, 8, 4)
	put(t, e, of(5, gen, 6, 2, 60), of(6, gen-1, 3, 1, 60), of(7, gen+1, 3, 0, 60))
	return e
}

// holding is a token by which the node that is visited holds something.
func holding() api.Token {
	return tokenOf(rowOf(4, 9, 20), rowOf(5, 1, 40, to(1, 2), to(here, 6)), rowOf(policy, 50, 40))
}

// TestBusy: D1, a visit that may be changes all of busy and holding, so that what stays elsewhere stays by a rule.
func TestBusy(t *testing.T) {
	e := busy(t)
	l := visits(t, holding(), e, theConf(),
		behind(rowOf(4, 9, 20), rowOf(5, 0, now, to(1, 2), to(here, 5)), rowOf(8, 5, now, to(here, 4)), rowOf(policy, 0, now, to(here, 55))),
		yes(3, gen), yes(1, gen))
	if len(l.Table.Rows) != 4 {
		t.Errorf("there are %d rows", len(l.Table.Rows))
	}
}

// TestNilEdge: D1, rule 8.
func TestNilEdge(t *testing.T) {
	for _, l := range []api.Token{holding(), tokenOf(), {}, stamped(holding(), -1, -1, -1)} {
		wrong(t, "nil", l, nil, here, now, theConf())
	}
	for _, x := range edges() {
		wrong(t, "nil", holding(), nil, x, now, theConf())
		wrong(t, "nil", holding(), nil, here, x, theConf())
	}
}

// TestTokenMayNotBe: D1, by each thing of chapter 5 that a token must be.
func TestTokenMayNotBe(t *testing.T) {
	of := func(change func(l *api.Token)) api.Token {
		l := holding()
		change(&l)
		return l
	}
	row := func(change func(r *api.Row)) api.Token {
		return of(func(l *api.Token) { change(&l.Table.Rows[1]) })
	}
	rows := func(l ...api.Row) api.Token {
		return of(func(t *api.Token) { t.Table.Rows = l })
	}
	var many []api.Row
	for i := range 17 {
		many = append(many, rowOf(i, 0, 20))
	}
	e := busy(t)
	for name, l := range map[string]api.Token{
		"no token":               {},
		"generation 0":           of(func(l *api.Token) { l.Gen = 0 }),
		"generation below 0":     of(func(l *api.Token) { l.Gen = math.MinInt }),
		"generation above 2^40":  of(func(l *api.Token) { l.Gen = most + 1 }),
		"greatest generation":    of(func(l *api.Token) { l.Gen = math.MaxInt }),
		"hop below 0":            of(func(l *api.Token) { l.Hop = -1 }),
		"hop above 2^40":         of(func(l *api.Token) { l.Hop = most + 1 }),
		"stamp below -1":         stamped(holding(), 40, 38, -2),
		"other stamp below -1":   stamped(holding(), math.MinInt, 38, 40),
		"stamp of 2^62":          stamped(holding(), end, 38, 40),
		"own stamp of 2^62":      stamped(holding(), 40, 38, end),
		"start below 0":          of(func(l *api.Token) { l.Table.Start = -1 }),
		"start above 2^62":       of(func(l *api.Token) { l.Table.Start = end + 1 }),
		"start above a mark":     of(func(l *api.Token) { l.Table.Start = 21 }),
		"more rows than 16":      rows(many...),
		"keys that do not rise":  rows(rowOf(5, 1, 40), rowOf(4, 1, 40)),
		"a key twice":            rows(rowOf(5, 1, 40), rowOf(5, 1, 40)),
		"a key below 0":          rows(rowOf(-1, 1, 40)),
		"a key of policy 8":      rows(rowOf(8*policy, 1, 40)),
		"avail below 0":          row(func(r *api.Row) { r.Avail = -1 }),
		"avail above 2^31":       row(func(r *api.Row) { r.Avail = span + 1 }),
		"mark above 2^62":        row(func(r *api.Row) { r.Mark = end + 1 }),
		"a node of -1":           row(func(r *api.Row) { r.Out = []api.Lease{to(-1, 1)} }),
		"a node of 64":           row(func(r *api.Row) { r.Out = []api.Lease{to(64, 1)} }),
		"nodes that do not rise": row(func(r *api.Row) { r.Out = []api.Lease{to(2, 1), to(1, 1)} }),
		"a node twice":           row(func(r *api.Row) { r.Out = []api.Lease{to(2, 1), to(2, 1)} }),
		"an amount of 0":         row(func(r *api.Row) { r.Out = []api.Lease{to(2, 0)} }),
		"an amount above 2^31":   row(func(r *api.Row) { r.Out = []api.Lease{to(2, span+1)} }),
	} {
		wrong(t, name, l, e, here, now, theConf())
	}
}

// TestTokenMayBe: D1, a token at the bounds of chapter 5 may be.
func TestTokenMayBe(t *testing.T) {
	l := holding()
	l.Gen, l.Hop = most, most
	want := copied(l)
	want.Stamps[here] = end - 1
	visitsAt(t, l, busy(t), here, end-1, theConf(), want)
	l.Gen, l.Hop, l.Table = 1, 0, api.Table{Start: end}
	want = copied(l)
	want.Stamps[here] = 0
	want.Table.Rows = []api.Row{rowOf(5, 0, end), rowOf(8, 0, end), rowOf(policy, 0, end)}
	visitsAt(t, l, busy(t), here, 0, theConf(), want)
}

// TestStampsOfAnotherRing: D1, one more, and one fewer, than the configuration's N.
func TestStampsOfAnotherRing(t *testing.T) {
	e := busy(t)
	for _, l := range [][]int{{40, 38}, {40, 38, -1, -1}, {40, 38, 30, 41}, {40}, {}, nil} {
		wrong(t, "stamps", stamped(holding(), l...), e, here, now, theConf())
		wrong(t, "stamps", stamped(holding(), l...), e, 0, now, theConf())
	}
	for _, n := range []int{1, 2, 3, 63, 64} {
		c := theConf()
		c.N = n
		for _, d := range []int{-1, 1} {
			wrong(t, "stamps", stamped(holding(), make([]int, n+d)...), e, 0, now, c)
			wrong(t, "stamps", stamped(holding(), make([]int, n+d)...), e, n-1, now, c)
		}
	}
}

// TestNoSuchNode: D1, -1, N, 64 and both ends of the ints.
func TestNoSuchNode(t *testing.T) {
	e := busy(t)
	for _, node := range []int{math.MinInt, -end, -2, -1, 3, 4, 63, 64, 65, span, end, math.MaxInt} {
		wrong(t, "node", holding(), e, node, now, theConf())
	}
	for _, n := range []int{1, 2, 64} {
		c := theConf()
		c.N = n
		for _, node := range []int{-1, n, 64, math.MinInt, math.MaxInt} {
			wrong(t, "node", stamped(holding(), make([]int, n)...), e, node, 5, c)
		}
	}
}

// TestNoSuchReading: D1, -1, 2^62 and both ends of the ints; 0 and 2^62 less 1 may be.
func TestNoSuchReading(t *testing.T) {
	e := busy(t)
	for _, x := range []int{math.MinInt, math.MinInt + 1, -end, -2, -1, end, end + 1, math.MaxInt - 1, math.MaxInt} {
		wrong(t, "now", holding(), e, here, x, theConf())
	}
	for _, x := range []int{0, 1, end - 2, end - 1} {
		want := stamped(tokenOf(), -1, -1, x)
		visitsAt(t, stamped(tokenOf(), -1, -1, -1), e, here, x, theConf(), want)
	}
}

// TestConfMayNotBe: D1, by each thing of chapter 3 that a configuration must be.
func TestConfMayNotBe(t *testing.T) {
	e := busy(t)
	for i, change := range []func(c *api.Conf){
		func(c *api.Conf) { c.N = 0 },
		func(c *api.Conf) { c.N = -1 },
		func(c *api.Conf) { c.Skew = -1 },
		func(c *api.Conf) { c.Skew = span + 1 },
		func(c *api.Conf) { c.TTL = 0 },
		func(c *api.Conf) { c.TTL = span + 1 },
		func(c *api.Conf) { c.Valid = 0 },
		func(c *api.Conf) { c.Valid = span + 1 },
		func(c *api.Conf) { c.Loss = 0 },
		func(c *api.Conf) { c.Loss = span + 1 },
		func(c *api.Conf) { c.Hear = 0 },
		func(c *api.Conf) { c.Hear = span + 1 },
		func(c *api.Conf) { c.Keys = 0 },
		func(c *api.Conf) { c.Keys = 17 },
		func(c *api.Conf) { c.Queue = -1 },
		func(c *api.Conf) { c.Queue = 17 },
		func(c *api.Conf) { c.Rates = nil },
		func(c *api.Conf) { c.Rates = make([]api.Rate, 9) },
		func(c *api.Conf) { c.Rates = []api.Rate{{R: 2, B: 9}, {R: -1, B: 9}} },
		func(c *api.Conf) { c.Rates = []api.Rate{{R: 2, B: 9}, {R: 1, B: span + 1}} },
		func(c *api.Conf) { *c = api.Conf{} },
	} {
		c := theConf()
		change(&c)
		l := holding()
		wrong(t, "conf", l, e, here, now, c)
		if t.Failed() {
			t.Fatalf("configuration %d: %+v", i, c)
		}
		// As many stamps as it has, so that nothing else is wrong.
		wrong(t, "conf", stamped(l, make([]int, max(0, c.N))...), e, 0, now, c)
	}
	c := theConf()
	c.N = 65
	wrong(t, "conf", stamped(holding(), make([]int, 65)...), e, 0, now, c)
}

// TestConfMayBe: D1, at the bounds of chapter 3.
func TestConfMayBe(t *testing.T) {
	least := api.Conf{N: 3, TTL: 1, Valid: 1, Loss: 1, Hear: 1, Keys: 1, Rates: []api.Rate{{}}}
	visits(t, tokenOf(), made(t, least), least, behind())
	greatest := api.Conf{N: 3, Skew: span, TTL: span, Valid: span, Loss: span, Hear: span, Keys: 16, Queue: 16, Rates: make([]api.Rate, 8)}
	for i := range greatest.Rates {
		greatest.Rates[i] = api.Rate{R: span, B: span}
	}
	e := asked(t, greatest, request(1, 7*policy+9, span))
	visits(t, tokenOf(), e, greatest, behind(rowOf(7*policy+9, 0, now, to(here, span))), yes(1, gen))
	has(t, e, state{leases: leasesOf(of(7*policy+9, gen, span, span, now+span))})
}
