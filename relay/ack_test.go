package relay

import (
	"testing"

	"annona/api"
)

// TestAck: Y1, an ack answers, and what it answers is held no more.
func TestAck(t *testing.T) {
	for _, f := range passes() {
		r := holding(t, f)
		acks(t, r, ackOf(f), true)
		tellsNone(t, r)
		sent(t, r, 0)
	}
	r := holding(t, thePass())
	tells(t, r, thePass())
	acks(t, r, theAck(), true)
	tellsNone(t, r)
	sent(t, r, 2)
}

// TestAckTwice: Y1, a second ack in a row answers nothing.
func TestAckTwice(t *testing.T) {
	r := New()
	for range 3 {
		acks(t, r, theAck(), false)
		holds(t, r, thePass(), api.OK)
		acks(t, r, theAck(), true)
		acks(t, r, theAck(), false)
		tellsNone(t, r)
	}
}

// TestAckNone: Y1, nothing is answered, if none is held.
func TestAckNone(t *testing.T) {
	r := New()
	for _, f := range append(passes(), theAck(), api.Frame{}, api.Frame{Kind: api.Ack}) {
		acks(t, r, f, false)
		acks(t, r, ackOf(f), false)
	}
	tellsNone(t, r)
	sent(t, r, 0)
}

// wrongAcks are frames that don't answer thePass.
func wrongAcks() []named {
	var l []named
	add := func(name string, change func(f *api.Frame)) {
		l = append(l, named{name, changed(theAck(), change)})
	}
	for _, by := range []int{-1, 1, -12, 12, 64, -64, 1 << 32, -(1 << 32), most, -most} {
		add("From is off", func(f *api.Frame) { f.From += by })
		add("To is off", func(f *api.Frame) { f.To += by })
		add("Gen is off", func(f *api.Frame) { f.Gen += by })
		add("Hop is off", func(f *api.Frame) { f.Hop += by })
	}
	add("the other way round", func(f *api.Frame) { f.From, f.To = f.To, f.From })
	add("from both ends", func(f *api.Frame) { f.From = f.To })
	add("to both ends", func(f *api.Frame) { f.To = f.From })
	add("Gen and Hop changed", func(f *api.Frame) { f.Gen, f.Hop = f.Hop, f.Gen })
	add("of a newer place", func(f *api.Frame) { f.Gen, f.Hop = 8, 0 })
	add("the same sum", func(f *api.Frame) { f.Gen, f.Hop = f.Gen+1, f.Hop-1 })
	add("Gen 0", func(f *api.Frame) { f.Gen = 0 })
	add("Gen too great", func(f *api.Frame) { f.Gen = most + 1 })
	add("Hop -1", func(f *api.Frame) { f.Hop = -1 })
	add("Hop too great", func(f *api.Frame) { f.Hop = most + 1 })
	add("no node", func(f *api.Frame) { f.From = 64 })
	add("to no node", func(f *api.Frame) { f.To = -1 })
	for _, bits := range []uint64{1, 2, 1 << 32, 1 << 63} {
		add("bits", func(f *api.Frame) { f.Bits = bits })
	}
	add("its token", func(f *api.Frame) { f.Token = theToken() })
	add("a token's Gen", func(f *api.Frame) { f.Token.Gen = 7 })
	add("a token's Hop", func(f *api.Frame) { f.Token.Hop = 12 })
	add("a stamp", func(f *api.Frame) { f.Token.Stamps = []int{0} })
	add("no stamp", func(f *api.Frame) { f.Token.Stamps = []int{-1} })
	add("a table's Start", func(f *api.Frame) { f.Token.Table.Start = 1 })
	add("a row", func(f *api.Frame) { f.Token.Table.Rows = make([]api.Row, 1) })
	add("the token's place alone", func(f *api.Frame) { f.Token.Gen, f.Token.Hop, f.Gen, f.Hop = 7, 12, 0, 0 })
	add("a pass", func(f *api.Frame) { *f = thePass() })
	add("a pass back", func(f *api.Frame) { *f = thePass(); f.From, f.To = 3, 2 })
	add("nothing", func(f *api.Frame) { *f = api.Frame{} })
	add("an empty ack", func(f *api.Frame) { *f = api.Frame{Kind: api.Ack} })
	for _, kind := range []api.Kind{api.Pass, api.Elect, api.Beat, 4, 257, 1<<32 + 1, -1} {
		add("another kind", func(f *api.Frame) { f.Kind = kind })
		add("another kind, alone", func(f *api.Frame) { f.Kind, f.Gen, f.Hop = kind, 0, 0 })
	}
	add("an elect", func(f *api.Frame) { f.Kind, f.Hop = api.Elect, 0 })
	return l
}

// TestAckNot: Y1, what doesn't answer it answers nothing, and it is held on.
func TestAckNot(t *testing.T) {
	for _, c := range wrongAcks() {
		r := holding(t, thePass())
		acks(t, r, c.f, false)
		sent(t, r, 0)
		tells(t, r, thePass())
		holds(t, r, placed(8, 1), api.ErrTwice)
		acks(t, r, theAck(), true)
		if t.Failed() {
			t.Fatal(c.name)
		}
	}
}

// TestAckOfNoAck: Y1, at a hop of 0 an elect that may be has all that an ack would have; it is no ack all the same.
func TestAckOfNoAck(t *testing.T) {
	f := placed(7, 0)
	r := holding(t, f)
	for _, kind := range []api.Kind{api.Pass, api.Elect, api.Beat, 4, -1} {
		acks(t, r, changed(ackOf(f), func(f *api.Frame) { f.Kind = kind }), false)
	}
	tells(t, r, f)
	acks(t, r, ackOf(f), true)
}

// TestAckAtBounds: Y1, at each bound of what a pass and an ack may have, the ack that may be answers, and the one beside it doesn't.
func TestAckAtBounds(t *testing.T) {
	for _, gen := range []int{1, 2, most - 1, most} {
		for _, hop := range []int{0, 1, most - 1, most} {
			for _, ends := range [][2]int{{0, 0}, {0, 63}, {63, 0}, {63, 63}, {31, 32}} {
				f := placed(gen, hop)
				f.From, f.To = ends[0], ends[1]
				ackBeside(t, f)
			}
		}
	}
}

// ackBeside tries the ack of a frame, and those that are off by one.
func ackBeside(t *testing.T, f api.Frame) {
	t.Helper()
	r := holding(t, f)
	for i := range 4 {
		for _, by := range []int{-1, 1} {
			acks(t, r, changed(ackOf(f), func(f *api.Frame) { *[]*int{&f.From, &f.To, &f.Gen, &f.Hop}[i] += by }), false)
		}
	}
	if f.From != f.To {
		acks(t, r, changed(ackOf(f), func(f *api.Frame) { f.From, f.To = f.To, f.From }), false)
	}
	tells(t, r, f)
	acks(t, r, ackOf(f), true)
	tellsNone(t, r)
}

// TestAckEmptyLists: rule 6, an ack whose token has lists without elements answers as one whose lists are nil.
func TestAckEmptyLists(t *testing.T) {
	f := theAck()
	f.Token.Stamps, f.Token.Table.Rows = []int{}, []api.Row{}
	r := holding(t, thePass())
	acks(t, r, f, true)
	tellsNone(t, r)
}

// TestAckEarlier: Y1, an ack of what was held ahead answers nothing of what is held now.
func TestAckEarlier(t *testing.T) {
	r := holding(t, thePass())
	acks(t, r, theAck(), true)
	holds(t, r, placed(7, 13), api.OK)
	acks(t, r, theAck(), false)
	tells(t, r, placed(7, 13))
	acks(t, r, changed(theAck(), func(f *api.Frame) { f.Hop = 13 }), true)
	tellsNone(t, r)
}
