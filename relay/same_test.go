package relay

import (
	"testing"

	"annona/api"
)

// watch is what must hold of a relay by P15.2 alone: what is held since when, if something is.
type watch struct {
	held  bool
	frame api.Frame
	told  int
}

// after is a call's answer, held against what P15.2 says.
func (w *watch) after(t *testing.T, a act, y answer) {
	t.Helper()
	switch a.how {
	case toHold:
		if w.held && y.err == api.OK {
			t.Fatalf("%+v takes the place of %+v", a.f, w.frame)
		}
		if y.err == api.OK {
			w.held, w.frame = true, ownCopy(a.f)
		}
	case toHeld:
		if y.ok != w.held || w.held && !sameFrame(y.f, w.frame) {
			t.Fatalf("told: %+v, %v, not %+v, %v", y.f, y.ok, w.frame, w.held)
		}
		if y.ok {
			w.told++
		}
	case toAck, toDrop:
		if y.ok && !w.held {
			t.Fatalf("%+v: nothing was held", a)
		}
		w.held = w.held && !y.ok
	}
}

// TestToTheSameOne: P15.2, until it is answered, or dropped, what is held is told unchanged, and no other frame takes its place.
func TestToTheSameOne(t *testing.T) {
	x := uint64(52)
	told, long := 0, 0
	for range 300 {
		var w watch
		r := New()
		since := 0
		for range 200 {
			a := drawn(&x, w.frame)
			w.after(t, a, a.onRelay(r))
			w.after(t, act{how: toHeld}, act{how: toHeld}.onRelay(r))
			since++
			if !w.held {
				since = 0
			}
			long = max(long, since)
		}
		told += w.told
	}
	if told < 10000 || long < 10 {
		t.Errorf("told %d times, held for %d acts", told, long)
	}
}

// TestNoOtherWayOut: P15.2, whatever else is called, however often, it is told unchanged.
func TestNoOtherWayOut(t *testing.T) {
	for _, f := range passes() {
		r := holding(t, f)
		x := uint64(53)
		for range 2000 {
			a := drawn(&x, f)
			answers := a.how == toAck && ackMayBe(a.f) && sameFrame(a.f, ackOf(f))
			newer := a.how == toDrop && (a.at.Gen > f.Token.Gen || a.at.Gen == f.Token.Gen && a.at.Hop > f.Token.Hop)
			if !answers && !newer {
				a.onRelay(r)
			}
		}
		tells(t, r, f)
		acks(t, r, ackOf(f), true)
	}
}
