package relay

import (
	"sync"
	"testing"

	"annona/api"
)

// numbers are all that a pass has beside its kind.
func numbers(f *api.Frame) []*int {
	l := []*int{&f.From, &f.To, &f.Token.Gen, &f.Token.Hop, &f.Token.Table.Start}
	for i := range f.Token.Stamps {
		l = append(l, &f.Token.Stamps[i])
	}
	for i := range f.Token.Table.Rows {
		r := &f.Token.Table.Rows[i]
		l = append(l, &r.Key, &r.Avail, &r.Mark)
		for j := range r.Out {
			l = append(l, &r.Out[j].Node, &r.Out[j].Amount)
		}
	}
	return l
}

// TestHeldParts: Y1, each part of what is told is that of what is held.
func TestHeldParts(t *testing.T) {
	f := thePass()
	n := len(numbers(&f))
	if n != 5+4+3*3+2*4 {
		t.Fatalf("there are %d numbers", n)
	}
	for i := range n {
		for _, by := range []int{1, 0, -1} {
			g := changed(f, func(f *api.Frame) { *numbers(f)[i] += by })
			// A stamp of -1, a node of 0 and the Start below each Mark have no lesser, or greater, one beside them.
			if !passMayBe(g) {
				continue
			}
			r := holding(t, g)
			tells(t, r, g)
			if got, _ := r.Held(); *numbers(&got)[i] != *numbers(&f)[i]+by {
				t.Errorf("number %d: %d", i, *numbers(&got)[i])
			}
		}
	}
}

// TestHeldLists: Y1, each list is told whole, and none is longer.
func TestHeldLists(t *testing.T) {
	for n := 1; n <= 64; n++ {
		f := changed(thePass(), func(f *api.Frame) { f.Token.Stamps = stamps(n) })
		tells(t, holding(t, f), f)
	}
	for n := range 17 {
		f := changed(thePass(), func(f *api.Frame) { f.Token.Table.Rows = rows(n, n) })
		tells(t, holding(t, f), f)
	}
	for n := range 65 {
		f := changed(thePass(), func(f *api.Frame) { f.Token.Table.Rows[1].Out = leases(n) })
		tells(t, holding(t, f), f)
	}
}

// TestHeldOften: Y1, told often, it is always the same.
func TestHeldOften(t *testing.T) {
	r := holding(t, thePass())
	for i := range 1000 {
		if f, ok := r.Held(); !ok || !sameFrame(f, thePass()) {
			t.Fatalf("%d: %+v, %v", i, f, ok)
		}
		if r.Sent() != i+1 {
			t.Fatalf("%d: sent %d", i, r.Sent())
		}
	}
}

// TestHeldNone: Y1, an empty frame and false, if none is held, whatever was held ahead.
func TestHeldNone(t *testing.T) {
	r := New()
	tellsNone(t, r)
	for _, f := range passes() {
		holds(t, r, f, api.OK)
		acks(t, r, ackOf(f), true)
		tellsNone(t, r)
		holds(t, r, f, api.OK)
		drops(t, r, place(f.Token.Gen+1, 0), true)
		tellsNone(t, r)
	}
	sent(t, r, 0)
}

// TestSent: Y1, one more for each frame that is told, and for nothing else, over several frames.
func TestSent(t *testing.T) {
	r := New()
	want := 0
	step := func(name string, more int) {
		t.Helper()
		want += more
		sent(t, r, want)
		if t.Failed() {
			t.Fatal(name)
		}
	}
	step("new", 0)
	r.Held()
	step("told none", 0)
	for i, f := range passes() {
		r.Hold(f)
		step("held", 0)
		for range i {
			r.Held()
			step("told", 1)
		}
		r.Hold(f)
		step("held twice", 0)
		r.Hold(theAck())
		step("an ack is held", 0)
		r.Ack(f)
		step("a pass answers nothing", 0)
		r.Drop(place(f.Token.Gen, f.Token.Hop))
		step("the same place", 0)
		r.Held()
		step("told again", 1)
		if i%2 == 0 {
			r.Ack(ackOf(f))
		} else {
			r.Drop(place(f.Token.Gen+1, 0))
		}
		step("it goes", 0)
		r.Held()
		step("none is told", 0)
		r.Ack(ackOf(f))
		r.Drop(place(f.Token.Gen+1, 0))
		step("none goes", 0)
	}
}

// TestSentAtOnce: the way of this layer, none is lost of what several tell at once.
func TestSentAtOnce(t *testing.T) {
	r := holding(t, leastPass())
	var all sync.WaitGroup
	for range 16 {
		all.Go(func() {
			for range 50000 {
				r.Held()
			}
		})
	}
	all.Wait()
	sent(t, r, 16*50000)
	tells(t, r, leastPass())
}
