package relay

import (
	"slices"
	"testing"

	"annona/api"
)

// spread is a frame whose lists have room behind their lengths, in which lies what would count if it were looked at.
func spread(f api.Frame) api.Frame {
	t := f.Token
	t.Stamps = slices.Concat(t.Stamps, []int{70, end, -9})[:len(t.Stamps)]
	l := make([]api.Row, 0, len(t.Table.Rows)+2)
	for _, r := range t.Table.Rows {
		r.Out = slices.Concat(r.Out, []api.Lease{to(2, 5), to(64, 0)})[:len(r.Out)]
		l = append(l, r)
	}
	l = append(l, api.Row{Key: 70000, Avail: 3, Mark: 50}, api.Row{Key: -1})
	t.Table.Rows = l[:len(t.Table.Rows)]
	f.Token = t
	return f
}

// memory is all that a frame's lists have, as far as their memory goes, as a copy.
func memory(f api.Frame) api.Frame {
	f.Token.Stamps = slices.Clone(f.Token.Stamps[:cap(f.Token.Stamps)])
	f.Token.Table.Rows = slices.Clone(f.Token.Table.Rows[:cap(f.Token.Table.Rows)])
	for i, r := range f.Token.Table.Rows {
		f.Token.Table.Rows[i].Out = slices.Clone(r.Out[:cap(r.Out)])
	}
	return f
}

// kept is a frame that was handed in, or told, and what its memory was then.
type kept struct {
	f, was api.Frame
}

func keep(f api.Frame) kept {
	return kept{f, memory(f)}
}

// TestNobodyWrites: rule 4, nothing is written into the lists of what is handed in, or was told, nor into what lies behind their lengths.
func TestNobodyWrites(t *testing.T) {
	x := uint64(54)
	for range 40 {
		r := New()
		var all []kept
		known := thePass()
		for range 150 {
			a := drawn(&x, known)
			a.f = spread(a.f)
			all = append(all, keep(a.f))
			y := a.onRelay(r)
			all = append(all, keep(y.f))
			if a.how == toHold && y.err == api.OK {
				known = a.f
			}
		}
		for i, k := range all {
			if !sameFrame(memory(k.f), k.was) {
				t.Fatalf("frame %d is %+v, not %+v", i, memory(k.f), k.was)
			}
		}
	}
}

// TestBehindLength: rule 4, what lies behind a list's length isn't read, neither of a pass nor of an ack.
func TestBehindLength(t *testing.T) {
	for _, f := range passes() {
		r := New()
		holds(t, r, spread(f), api.OK)
		tells(t, r, f)
		acks(t, r, spread(ackOf(f)), true)
		tellsNone(t, r)
	}
	for _, c := range wrongPasses() {
		holds(t, New(), spread(c.f), api.ErrArg)
	}
	for _, c := range wrongAcks() {
		acks(t, holding(t, thePass()), spread(c.f), false)
	}
}

// TestArgumentReused: rule 4, a frame that is handed in again, with other numbers beside its lists, changes nothing of what is held.
func TestArgumentReused(t *testing.T) {
	f := thePass()
	r := holding(t, f)
	f.From, f.To, f.Token.Gen, f.Token.Hop, f.Token.Table.Start = 9, 9, 9, 9, 9
	holds(t, r, f, api.ErrTwice)
	tells(t, r, thePass())
	g, _ := r.Held()
	g.From, g.To, g.Token.Gen, g.Token.Hop, g.Token.Stamps, g.Token.Table.Rows = 9, 9, 9, 9, nil, nil
	tells(t, r, thePass())
}

// TestNil: rule 8, a nil relay answers ErrArg of Hold, and holds nothing.
func TestNil(t *testing.T) {
	var r *Relay
	for _, f := range append(passes(), theAck(), api.Frame{}) {
		holds(t, r, f, api.ErrArg)
		tellsNone(t, r)
		acks(t, r, f, false)
		acks(t, r, ackOf(f), false)
	}
	for _, c := range wrongPasses() {
		holds(t, r, c.f, api.ErrArg)
	}
	for _, a := range edges() {
		for _, b := range edges() {
			drops(t, r, place(a, b), false)
		}
	}
	sent(t, r, 0)
}

// told is an answer as numbers.
func (y answer) told() []int {
	l := []int{int(y.err), y.n, int(y.f.Kind), y.f.Gen, y.f.Hop, int(y.f.Bits)}
	if y.ok {
		l = append(l, 1)
	}
	for _, p := range numbers(&y.f) {
		l = append(l, *p)
	}
	return l
}

// everyCall is what all calls tell, in drawn orders, of some relays and of a nil one.
func everyCall() []int {
	var out []int
	x := uint64(55)
	for _, r := range []*Relay{New(), New(), nil, New()} {
		for range 600 {
			out = append(out, drawn(&x, thePass()).onRelay(r).told()...)
		}
		out = append(out, r.Sent())
	}
	return out
}

// P1, P2: every call ends, and what it tells hangs on its arguments and the calls ahead of it alone.
func TestArgumentsAlone(t *testing.T) {
	want := everyCall()
	for range 5 {
		if !slices.Equal(everyCall(), want) {
			t.Fatal("the same calls told something else")
		}
	}
}

// fields are all numbers of a frame, of which the lists have at least one.
func fields(f *api.Frame) []*int {
	r := &f.Token.Table.Rows[0]
	return []*int{
		(*int)(&f.Kind), &f.From, &f.To, &f.Gen, &f.Hop, &f.Token.Gen, &f.Token.Hop, &f.Token.Stamps[0], &f.Token.Table.Start,
		&r.Key, &r.Avail, &r.Mark, &r.Out[0].Node, &r.Out[0].Amount,
	}
}

// P1, P2: each call at all edges, one behind the other, beside a plain one.
func TestAllEnd(t *testing.T) {
	r, p := New(), &plain{}
	f := thePass()
	n := len(fields(&f))
	for i := range n {
		for j := range i + 1 {
			for _, a := range edges() {
				for _, b := range []int{a, 0, 1, most - a, -1} {
					g := changed(f, func(f *api.Frame) { *fields(f)[i], *fields(f)[j] = a, b })
					tried(t, r, p, act{how: toHold, f: g})
					tried(t, r, p, act{how: toHeld})
					tried(t, r, p, act{how: toAck, f: g})
					tried(t, r, p, act{how: toAck, f: changed(ackOf(g), func(f *api.Frame) { f.Bits = uint64(b) })})
					tried(t, r, p, act{how: toDrop, at: place(b, a)})
					tried(t, r, p, act{how: toAck, f: ackOf(g)})
				}
			}
		}
	}
}
