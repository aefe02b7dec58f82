package relay

import (
	"fmt"
	"testing"

	"annona/api"
)

// TestNew: Y1, a new relay holds none, and nothing was sent.
func TestNew(t *testing.T) {
	r := New()
	if r == nil {
		t.Fatal("New: nil")
	}
	sent(t, r, 0)
	tellsNone(t, r)
	acks(t, r, theAck(), false)
	drops(t, r, place(8, 13), false)
	sent(t, r, 0)
}

// TestTwoRelays: Y1, two relays share nothing.
func TestTwoRelays(t *testing.T) {
	a, b := New(), New()
	holds(t, a, thePass(), api.OK)
	tellsNone(t, b)
	tells(t, a, thePass())
	sent(t, b, 0)
	holds(t, b, placed(8, 1), api.OK)
	tells(t, a, thePass())
	tells(t, b, placed(8, 1))
	acks(t, b, theAck(), false)
	acks(t, a, theAck(), true)
	tells(t, b, placed(8, 1))
	drops(t, a, place(9, 0), false)
	drops(t, b, place(9, 0), true)
	holds(t, a, thePass(), api.OK)
	tellsNone(t, b)
	sent(t, a, 4)
	sent(t, b, 4)
	sent(t, New(), 0)
}

// TestHold: Y1, a pass that may be is held.
func TestHold(t *testing.T) {
	for _, f := range passes() {
		r := New()
		holds(t, r, f, api.OK)
		tells(t, r, f)
	}
}

// named is a frame, and what is wrong with it.
type named struct {
	name string
	f    api.Frame
}

// otherKinds are frames that may be, or that have what a pass has, but are no pass.
func otherKinds() []named {
	l := []named{
		{"an ack", theAck()},
		{"an ack that answers nothing", api.Frame{Kind: api.Ack, Gen: 1}},
		{"an elect", api.Frame{Kind: api.Elect, From: 2, To: 3, Gen: 7, Bits: 9}},
		{"a beat", api.Frame{Kind: api.Beat, From: 2, To: 3}},
		{"an empty frame", api.Frame{}},
	}
	for _, kind := range []api.Kind{api.Ack, api.Elect, api.Beat, 4, 5, 256, 1 << 32, -1, -4} {
		f := thePass()
		f.Kind = kind
		l = append(l, named{fmt.Sprintf("kind %d with a token", kind), f}, named{fmt.Sprintf("kind %d alone", kind), api.Frame{Kind: kind, From: 2, To: 3}})
	}
	for _, x := range edges() {
		if x != int(api.Pass) {
			f := thePass()
			f.Kind = api.Kind(x)
			l = append(l, named{fmt.Sprintf("kind %d", x), f})
		}
	}
	return l
}

// wrongNumbers are passes with one number that may not be.
func wrongNumbers() []named {
	var l []named
	add := func(name string, at func(f *api.Frame) *int, tries ...int) {
		for _, x := range tries {
			l = append(l, named{fmt.Sprintf("%s %d", name, x), changed(thePass(), func(f *api.Frame) { *at(f) = x })})
		}
	}
	add("From", func(f *api.Frame) *int { return &f.From }, -1, 64, -end, end)
	add("To", func(f *api.Frame) *int { return &f.To }, -1, 64, -end, end)
	add("Gen", func(f *api.Frame) *int { return &f.Gen }, 1, 7, -1, most)
	add("Hop", func(f *api.Frame) *int { return &f.Hop }, 1, 12, -1, most)
	add("the token's Gen", func(f *api.Frame) *int { return &f.Token.Gen }, 0, -1, -7, most+1, end)
	add("the token's Hop", func(f *api.Frame) *int { return &f.Token.Hop }, -1, -12, most+1, end)
	for i := range 4 {
		add(fmt.Sprintf("stamp %d", i), func(f *api.Frame) *int { return &f.Token.Stamps[i] }, -2, -end, end, end+1)
	}
	add("Start", func(f *api.Frame) *int { return &f.Token.Table.Start }, -1, end+1, 12)
	for i, keys := range [][]int{{-1, 7, 8, 65541}, {3, 2, -1, 65541}, {7, 6, -1, topKey + 1, end}} {
		add(fmt.Sprintf("key %d", i), func(f *api.Frame) *int { return &f.Token.Table.Rows[i].Key }, keys...)
		add(fmt.Sprintf("Avail %d", i), func(f *api.Frame) *int { return &f.Token.Table.Rows[i].Avail }, -1, span+1, end)
		add(fmt.Sprintf("Mark %d", i), func(f *api.Frame) *int { return &f.Token.Table.Rows[i].Mark }, 9, -1, end+1)
	}
	for i, nodes := range [][]int{{-1, 2, 3}, {0, -1, 5, 6}, {2, 1, -1, 64}} {
		add(fmt.Sprintf("node %d", i), func(f *api.Frame) *int { return &f.Token.Table.Rows[0].Out[i].Node }, nodes...)
		add(fmt.Sprintf("amount %d", i), func(f *api.Frame) *int { return &f.Token.Table.Rows[0].Out[i].Amount }, 0, -1, span+1, end)
	}
	add("the last node", func(f *api.Frame) *int { return &f.Token.Table.Rows[2].Out[0].Node }, -1, 64)
	add("the last amount", func(f *api.Frame) *int { return &f.Token.Table.Rows[2].Out[0].Amount }, 0, span+1)
	return l
}

// wrongLists are passes with bits, or with a list that may not be.
func wrongLists() []named {
	var l []named
	add := func(name string, change func(f *api.Frame)) {
		l = append(l, named{name, changed(thePass(), change)})
	}
	add("one bit", func(f *api.Frame) { f.Bits = 1 })
	add("the last bit", func(f *api.Frame) { f.Bits = 1 << 63 })
	add("an empty token", func(f *api.Frame) { f.Token = api.Token{} })
	add("no stamps", func(f *api.Frame) { f.Token.Stamps = nil })
	add("a list of no stamps", func(f *api.Frame) { f.Token.Stamps = []int{} })
	add("65 stamps", func(f *api.Frame) { f.Token.Stamps = stamps(65) })
	add("17 rows", func(f *api.Frame) { f.Token.Table.Rows = rows(17, 1) })
	add("65 leases", func(f *api.Frame) { f.Token.Table.Rows[1].Out = leases(65) })
	add("a lease too many", func(f *api.Frame) { f.Token.Table.Rows[1].Out = append(leases(64), to(63, 1)) })
	add("an empty lease", func(f *api.Frame) { f.Token.Table.Rows[1].Out = make([]api.Lease, 1) })
	add("all is wrong", func(f *api.Frame) { *f = api.Frame{From: -1, To: 64, Gen: 7, Hop: 12, Bits: 3} })
	return l
}

// wrongPasses are frames that are no pass that may be.
func wrongPasses() []named {
	l := append(otherKinds(), wrongNumbers()...)
	return append(l, wrongLists()...)
}

// TestHoldArg: Y1, ErrArg for what is no pass, and for one that may not be; all is as it was.
func TestHoldArg(t *testing.T) {
	for _, c := range wrongPasses() {
		r := New()
		holds(t, r, c.f, api.ErrArg)
		tellsNone(t, r)
		sent(t, r, 0)
		acks(t, r, ackOf(c.f), false)
		holds(t, r, thePass(), api.OK)
		tells(t, r, thePass())
		if t.Failed() {
			t.Fatal(c.name)
		}
	}
}

// TestHoldArgFirst: Y1, ErrArg also where one is held, which goes on being held.
func TestHoldArgFirst(t *testing.T) {
	for _, c := range wrongPasses() {
		for _, f := range []api.Frame{thePass(), placed(8, 1)} {
			r := holding(t, f)
			holds(t, r, c.f, api.ErrArg)
			sent(t, r, 0)
			tells(t, r, f)
			acks(t, r, ackOf(f), true)
			holds(t, r, c.f, api.ErrArg)
			tellsNone(t, r)
		}
		if t.Failed() {
			t.Fatal(c.name)
		}
	}
}

// TestHoldTwice: Y1, ErrTwice, if one is held, also for the same one; all is as it was.
func TestHoldTwice(t *testing.T) {
	for _, f := range passes() {
		r := holding(t, f)
		for _, g := range passes() {
			holds(t, r, g, api.ErrTwice)
			tells(t, r, f)
			holds(t, r, f, api.ErrTwice)
		}
		sent(t, r, 2*len(passes()))
		acks(t, r, ackOf(f), true)
		tellsNone(t, r)
	}
}

// TestHoldNext: Y1, behind an ack that answers, and behind a newer place, the next one is held, also the same one.
func TestHoldNext(t *testing.T) {
	r := New()
	n := 0
	for _, f := range passes() {
		for _, g := range passes() {
			holds(t, r, f, api.OK)
			tells(t, r, f)
			acks(t, r, ackOf(f), true)
			holds(t, r, g, api.OK)
			tells(t, r, g)
			drops(t, r, place(g.Token.Gen, g.Token.Hop+1), true)
			n += 4
			sent(t, r, n)
		}
	}
	tellsNone(t, r)
}

// TestHoldAfterFalse: Y1, what answers nothing, and is no newer, makes no room for another one.
func TestHoldAfterFalse(t *testing.T) {
	r := holding(t, thePass())
	acks(t, r, changed(theAck(), func(f *api.Frame) { f.Hop++ }), false)
	holds(t, r, placed(8, 1), api.ErrTwice)
	drops(t, r, place(7, 12), false)
	holds(t, r, placed(8, 1), api.ErrTwice)
	tells(t, r, thePass())
}
