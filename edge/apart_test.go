package edge

import (
	"math"
	"slices"
	"testing"

	"annona/api"
	"annona/lease"
	"annona/queue"
)

// spoilt writes into a list, and into the room behind it, and puts more behind it.
func spoilt[T any](l []T, x T) {
	_ = append(l, x)
	l = l[:cap(l)]
	for i := range l {
		l[i] = x
	}
	_ = append(l, x)
}

// spoil spoils all that an edge tells of itself, and what it answers to calls that change nothing.
func spoil(e *Edge) {
	spoilt(e.Waiting(), queue.Item{ID: -77, Key: -77, Cost: -77, Class: -77, Until: -77})
	spoilt(e.Leases(), lease.Lease{Key: -77, Gen: -77, Amount: -77, Spent: -77, Until: -77})
	spoilt(e.Wants(), Want{-77, -77})
	for _, l := range [][]api.Answer{
		e.Ask(request(-50, 5, 0), 0), e.Ask(request(-50, 5, 1), -1), e.Grant(lease.Lease{}, 0), e.Expire(-1), e.Refuse(-1, api.TableFull),
	} {
		spoilt(l, no(-77, -77))
	}
}

// Rule 4: writing into what is told, or appending to it, changes nothing of the edge; nor does what else was told turn with it.
func TestToldIsNew(t *testing.T) {
	x := uint64(47)
	for _, c := range confs() {
		e, p := made(t, c), &plain{c: c}
		for range 60 {
			l := tried(t, e, p, drawn(&x))
			s := state{e.Waiting(), e.Leases(), e.Wants()}
			was := stateOf(e)
			spoilt(l, no(-77, -77))
			spoil(e)
			if !slices.Equal(s.items, was.items) || !slices.Equal(s.leases, was.leases) || !slices.Equal(s.wants, was.wants) {
				t.Fatalf("what else was told is %v now, not %v", s, was)
			}
			was.is(t, "spoilt", e)
			p.state().is(t, "spoilt", e)
		}
	}
}

// told is what was told once, and how it was then.
type told struct {
	s, was            state
	answers, answered []api.Answer
}

// Rule 4: a later call changes nothing of what was told.
func TestToldStays(t *testing.T) {
	x := uint64(48)
	for _, c := range confs() {
		e := made(t, c)
		var all []told
		for range 80 {
			l, _ := drawn(&x).onEdge(e)
			all = append(all, told{state{e.Waiting(), e.Leases(), e.Wants()}, stateOf(e), l, slices.Clone(l)})
		}
		for i, y := range all {
			if !slices.Equal(y.s.items, y.was.items) || !slices.Equal(y.s.leases, y.was.leases) || !slices.Equal(y.s.wants, y.was.wants) || !slices.Equal(y.answers, y.answered) {
				t.Fatalf("act %d: what was told is %v now, %v, not %v, %v", i, y.s, y.answers, y.was, y.answered)
			}
		}
	}
}

// Rule 8: a nil edge answers nothing, and -1 of Close, whatever it is asked.
func TestNil(t *testing.T) {
	var e *Edge
	for _, a := range edges() {
		e.Drop(a)
		expires(t, e, a)
		for _, b := range edges() {
			asks(t, e, request(1, a, b), 0)
			asks(t, e, request(1, 5, 2), b)
			asks(t, e, api.Request{ID: a, Key: b, Cost: a, Class: b, Wait: a}, b)
			grants(t, e, of(5, a, b, 30), 0)
			grants(t, e, of(a, 7, 6, 30), b)
			closes(t, e, a, b, -1)
			refuses(t, e, a, api.Reason(b))
		}
	}
	crashes(t, e)
	state{}.is(t, "nil", e)
}

// everyCall is what all calls tell, in drawn orders, of some edges and of a nil one.
func everyCall(t *testing.T) []int {
	var out []int
	x := uint64(49)
	for _, e := range []*Edge{made(t, room(theConf(), 16)), made(t, bursts(9, 1<<31, 9)), made(t, room(theConf(), 0)), nil} {
		for range 1500 {
			l, n := drawn(&x).onEdge(e)
			out = append(out, n, len(l))
			for _, y := range l {
				out = append(out, y.ID, y.Gen, int(y.Reason))
			}
			for _, y := range e.Waiting() {
				out = append(out, y.ID, y.Key, y.Cost, y.Class, y.Until)
			}
			for _, y := range e.Leases() {
				out = append(out, y.Key, y.Gen, y.Amount, y.Spent, y.Until)
			}
			for _, y := range e.Wants() {
				out = append(out, y.Key, y.Amount)
			}
		}
	}
	return out
}

// P1, P2: every call ends, and what it tells hangs on its arguments and the calls ahead of it alone.
func TestArgumentsAlone(t *testing.T) {
	want := everyCall(t)
	for range 5 {
		if !slices.Equal(everyCall(t), want) {
			t.Fatal("the same calls told something else")
		}
	}
}

// P1, P2: each call at all edges, one behind the other, beside a plain edge.
func TestAllEnd(t *testing.T) {
	c := bursts(9, 1<<31, 0, 1)
	e, p := made(t, c), &plain{c: c}
	for _, a := range edges() {
		for _, b := range edges() {
			for _, y := range []act{
				{how: toAsk, request: api.Request{ID: a, Key: b, Cost: 1, Class: 1, Wait: 5}, now: 5},
				{how: toAsk, request: api.Request{ID: b, Key: 5, Cost: a, Class: 2, Wait: b}, now: 5},
				{how: toAsk, request: api.Request{ID: a, Key: 5, Cost: 2, Class: 0, Wait: b}, now: a},
				{how: toAsk, request: api.Request{ID: a, Key: 6, Cost: 3, Class: b, Wait: 1}, now: b},
				{how: toGrant, lease: of(a, 7, b, math.MaxInt), now: a},
				{how: toGrant, lease: of(5, a, 7, b), now: b},
				{how: toExpire, now: min(a, b)},
				{how: toRefuse, lease: of(a, 0, 0, 0), why: api.Reason(b)},
				{how: toClose, lease: of(a, b, 0, 0)},
				{how: toClose, lease: of(b, 7, 0, 0)},
				{how: toDrop, lease: of(0, min(a, b), 0, 0)},
			} {
				tried(t, e, p, y)
			}
		}
	}
}
