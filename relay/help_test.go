package relay

import (
	"math"
	"slices"
	"testing"

	"annona/api"
	"annona/token"
)

// By the documents' words: how great a time, a generation or hop, a number and a key may be.
const (
	span   = 1 << 31
	most   = 1 << 40
	end    = 1 << 62
	topKey = 8*65536 - 1
)

// to is a lease.
func to(node, amount int) api.Lease {
	return api.Lease{Node: node, Amount: amount}
}

// theToken is a token that may be, of four nodes, with three rows and some leases; with new memory each time.
func theToken() api.Token {
	return api.Token{Gen: 7, Hop: 12, Stamps: []int{40, -1, 30, 35}, Table: api.Table{Start: 10, Rows: []api.Row{
		{Key: 3, Avail: 6, Mark: 13, Out: []api.Lease{to(0, 4), to(2, 1), to(5, 9)}},
		{Key: 7, Avail: 2, Mark: 11},
		{Key: 65541, Avail: 1, Mark: 44, Out: []api.Lease{to(1, 8)}},
	}}}
}

// passOf is a pass from node 2 to node 3.
func passOf(t api.Token) api.Frame {
	return api.Frame{Kind: api.Pass, From: 2, To: 3, Token: t}
}

// thePass is a pass that may be.
func thePass() api.Frame {
	return passOf(theToken())
}

// placed is a pass of a token that is at that place.
func placed(gen, hop int) api.Frame {
	t := theToken()
	t.Gen, t.Hop = gen, hop
	return passOf(t)
}

// theAck answers thePass.
func theAck() api.Frame {
	return api.Frame{Kind: api.Ack, From: 3, To: 2, Gen: 7, Hop: 12}
}

// ackOf answers a pass, by the chapter's words.
func ackOf(f api.Frame) api.Frame {
	return api.Frame{Kind: api.Ack, From: f.To, To: f.From, Gen: f.Token.Gen, Hop: f.Token.Hop}
}

// place is a place.
func place(gen, hop int) token.Place {
	return token.Place{Gen: gen, Hop: hop}
}

// stamps are n stamps that may be.
func stamps(n int) []int {
	l := make([]int, n)
	for i := range l {
		l[i] = i - 1
	}
	return l
}

// leases are n leases, whose nodes rise from 0 on.
func leases(n int) []api.Lease {
	l := make([]api.Lease, n)
	for i := range l {
		l[i] = to(i, 100+i)
	}
	return l
}

// rows are n rows that may be, with as many leases each, in a table that mints since 10 at most.
func rows(n, out int) []api.Row {
	l := make([]api.Row, n)
	for i := range l {
		l[i] = api.Row{Key: 1000 * i, Avail: i, Mark: 10 + i, Out: leases(out)}
	}
	return l
}

// greatPass has as much of all as there may be.
func greatPass() api.Frame {
	return api.Frame{Kind: api.Pass, From: 63, To: 63, Token: api.Token{
		Gen: most, Hop: most, Stamps: stamps(64), Table: api.Table{Start: 10, Rows: rows(16, 64)},
	}}
}

// leastPass has as little of all as there may be.
func leastPass() api.Frame {
	return api.Frame{Kind: api.Pass, Token: api.Token{Gen: 1, Stamps: []int{-1}}}
}

// edgePass has numbers that are as great, or as small, as they may be beside one another.
func edgePass() api.Frame {
	return api.Frame{Kind: api.Pass, From: 0, To: 63, Token: api.Token{Gen: 1, Hop: most, Stamps: []int{end - 1, 0, -1}, Table: api.Table{Start: end, Rows: []api.Row{
		{Key: 0, Avail: span, Mark: end, Out: []api.Lease{to(63, span)}},
		{Key: topKey, Avail: 0, Mark: end, Out: []api.Lease{to(0, 1), to(63, 1)}},
	}}}}
}

// passes are some that may be, no two the same.
func passes() []api.Frame {
	return []api.Frame{thePass(), leastPass(), greatPass(), edgePass(), placed(1, 0), placed(most, 0), placed(7, 13), placed(8, 0)}
}

// ownCopy is a frame that shares nothing with f, made without the calls that are on trial.
func ownCopy(f api.Frame) api.Frame {
	f.Token.Stamps = append([]int(nil), f.Token.Stamps...)
	f.Token.Table.Rows = append([]api.Row(nil), f.Token.Table.Rows...)
	for i, r := range f.Token.Table.Rows {
		f.Token.Table.Rows[i].Out = append([]api.Lease(nil), r.Out...)
	}
	return f
}

// changed is a copy of f that is changed.
func changed(f api.Frame, change func(f *api.Frame)) api.Frame {
	f = ownCopy(f)
	change(&f)
	return f
}

func sameRow(a, b api.Row) bool {
	return a.Key == b.Key && a.Avail == b.Avail && a.Mark == b.Mark && slices.Equal(a.Out, b.Out)
}

func sameToken(a, b api.Token) bool {
	return a.Gen == b.Gen && a.Hop == b.Hop && slices.Equal(a.Stamps, b.Stamps) &&
		a.Table.Start == b.Table.Start && slices.EqualFunc(a.Table.Rows, b.Table.Rows, sameRow)
}

// sameFrame tells whether two frames have the same; an empty list is the same as none.
func sameFrame(a, b api.Frame) bool {
	return a.Kind == b.Kind && a.From == b.From && a.To == b.To && a.Gen == b.Gen && a.Hop == b.Hop && a.Bits == b.Bits && sameToken(a.Token, b.Token)
}

// holds holds what Hold answers.
func holds(t *testing.T, r *Relay, f api.Frame, want api.Errno) {
	t.Helper()
	if got := r.Hold(f); got != want {
		t.Errorf("Hold(%+v): %d, not %d", f, got, want)
	}
}

// holding is a new relay that holds a frame.
func holding(t *testing.T, f api.Frame) *Relay {
	t.Helper()
	r := New()
	if err := r.Hold(f); err != api.OK {
		t.Fatalf("Hold(%+v): %d", f, err)
	}
	return r
}

// tells holds that a frame is held; it is told twice, since telling must change nothing but how often it was sent.
func tells(t *testing.T, r *Relay, want api.Frame) {
	t.Helper()
	for range 2 {
		was := r.Sent()
		if got, ok := r.Held(); !ok || !sameFrame(got, want) {
			t.Errorf("Held: %+v, %v, not %+v", got, ok, want)
		}
		sent(t, r, was+1)
	}
}

// tellsNone holds that nothing is held.
func tellsNone(t *testing.T, r *Relay) {
	t.Helper()
	for range 2 {
		was := r.Sent()
		if got, ok := r.Held(); ok || !sameFrame(got, api.Frame{}) {
			t.Errorf("Held: %+v, %v, though none is", got, ok)
		}
		sent(t, r, was)
	}
}

// sent holds how often frames were sent; asked twice, since asking must change nothing.
func sent(t *testing.T, r *Relay, want int) {
	t.Helper()
	for range 2 {
		if got := r.Sent(); got != want {
			t.Errorf("Sent: %d, not %d", got, want)
		}
	}
}

// acks holds whether a frame answers what is held.
func acks(t *testing.T, r *Relay, f api.Frame, want bool) {
	t.Helper()
	if got := r.Ack(f); got != want {
		t.Errorf("Ack(%+v): %v", f, got)
	}
}

// drops holds whether what is held goes for a place.
func drops(t *testing.T, r *Relay, p token.Place, want bool) {
	t.Helper()
	if got := r.Drop(p); got != want {
		t.Errorf("Drop(%+v): %v", p, got)
	}
}

// edges are ints at and beside all bounds that the chapters name, and at the ends.
func edges() []int {
	return []int{
		math.MinInt, math.MinInt + 1, -end, -most, -64, -3, -2, -1, 0, 1, 2, 3, 4, 6, 7, 8, 11, 12, 13, 62, 63, 64, 65,
		topKey, topKey + 1, span - 1, span, span + 1, most - 1, most, most + 1, end - 1, end, end + 1, math.MaxInt - 1, math.MaxInt,
	}
}

// draw is a fixed rule's next, below n: the same ones each time.
func draw(x *uint64, n int) int {
	*x = *x*6364136223846793005 + 1442695040888963407
	return int(*x >> 33 % uint64(n))
}
