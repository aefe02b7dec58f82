package node

import (
	"math"
	"testing"

	"annona/api"
)

// wrongTokens are tokens of three nodes of which something may not be.
func wrongTokens() []api.Token {
	turned := func(f func(t *api.Token)) api.Token {
		t := with(tokenOf(5, 1), rowOf(5, 4, 95, api.Lease{Node: 2, Amount: 3}), rowOf(6, 4, 95))
		f(&t)
		return t
	}
	var l []api.Token
	for _, x := range []int{math.MinInt, -1, 0, most + 1, end, math.MaxInt} {
		l = append(l, turned(func(t *api.Token) { t.Gen = x }))
		if x != 0 {
			l = append(l, turned(func(t *api.Token) { t.Hop = x }))
		}
	}
	for _, n := range []int{0, 65, 70} {
		l = append(l, turned(func(t *api.Token) { t.Stamps = make([]int, n) }))
	}
	for i := range 3 {
		for _, x := range []int{math.MinInt, -2, end, math.MaxInt} {
			l = append(l, turned(func(t *api.Token) { t.Stamps[i] = x }))
		}
	}
	return append(l,
		turned(func(t *api.Token) { t.Table.Start = -1 }),
		turned(func(t *api.Token) { t.Table.Start = 96 }),
		turned(func(t *api.Token) { t.Table.Start, t.Table.Rows = end+1, nil }),
		turned(func(t *api.Token) {
			t.Table.Rows = nil
			for i := range 17 {
				t.Table.Rows = append(t.Table.Rows, rowOf(i, 0, 95))
			}
		}),
		turned(func(t *api.Token) { t.Table.Rows[0].Key = -1 }),
		turned(func(t *api.Token) { t.Table.Rows[1].Key = 8 * policy }),
		turned(func(t *api.Token) { t.Table.Rows[1].Key = 5 }),
		turned(func(t *api.Token) { t.Table.Rows[1].Key = 4 }),
		turned(func(t *api.Token) { t.Table.Rows[1].Avail = -1 }),
		turned(func(t *api.Token) { t.Table.Rows[1].Avail = span + 1 }),
		turned(func(t *api.Token) { t.Table.Rows[1].Mark = 89 }),
		turned(func(t *api.Token) { t.Table.Rows[1].Mark = end + 1 }),
		turned(func(t *api.Token) { t.Table.Rows[0].Out[0].Node = -1 }),
		turned(func(t *api.Token) { t.Table.Rows[0].Out[0].Node = 64 }),
		turned(func(t *api.Token) { t.Table.Rows[0].Out[0].Amount = 0 }),
		turned(func(t *api.Token) { t.Table.Rows[0].Out[0].Amount = span + 1 }),
		turned(func(t *api.Token) { t.Table.Rows[0].Out = []api.Lease{{Node: 2, Amount: 1}, {Node: 2, Amount: 1}} }),
		turned(func(t *api.Token) { t.Table.Rows[0].Out = []api.Lease{{Node: 2, Amount: 1}, {Node: 1, Amount: 1}} }),
	)
}

// good are frames from node 2 to node 1 that may be, one of each kind.
func good() []api.Frame {
	return []api.Frame{passOf(2, here, tokenOf(5, 1)), ackOf(2, here, 5, 2), electOf(2, here, 5, 4), beatOf(2, here)}
}

// wrongFrames are frames from node 2 to node 1 that may not be, of each way in which chapter 5 says so.
func wrongFrames() []api.Frame {
	var l []api.Frame
	put := func(f api.Frame, turn func(f *api.Frame)) {
		turn(&f)
		l = append(l, f)
	}
	for _, x := range []int{math.MinInt, -1, 4, 64, math.MaxInt} {
		for _, f := range good() {
			put(f, func(f *api.Frame) { f.Kind = api.Kind(x) })
			if x != 4 {
				put(f, func(f *api.Frame) { f.From = x })
				put(f, func(f *api.Frame) { f.To = x })
			}
		}
		put(ackOf(2, here, 5, 2), func(f *api.Frame) { f.Hop = min(x, 0) - 1 })
	}
	for _, x := range []int{-1, 1, most, math.MaxInt} {
		put(good()[0], func(f *api.Frame) { f.Gen = x })
		put(good()[0], func(f *api.Frame) { f.Hop = x })
		put(good()[2], func(f *api.Frame) { f.Hop = x })
		put(good()[3], func(f *api.Frame) { f.Gen = x })
		put(good()[3], func(f *api.Frame) { f.Hop = x })
	}
	for _, x := range []int{-1, 0, most + 1, math.MaxInt} {
		put(good()[1], func(f *api.Frame) { f.Gen = x })
		put(good()[2], func(f *api.Frame) { f.Gen = x })
		if x != 0 {
			put(good()[1], func(f *api.Frame) { f.Hop = x })
		}
	}
	for _, i := range []int{0, 1, 3} {
		put(good()[i], func(f *api.Frame) { f.Bits = 1 << 63 })
		put(good()[i], func(f *api.Frame) { f.Bits = 1 })
	}
	for _, i := range []int{1, 2, 3} {
		put(good()[i], func(f *api.Frame) { f.Token = tokenOf(5, 1) })
		put(good()[i], func(f *api.Frame) { f.Token.Hop = 1 })
		put(good()[i], func(f *api.Frame) { f.Token.Stamps = []int{0} })
		put(good()[i], func(f *api.Frame) { f.Token.Table.Start = 1 })
		put(good()[i], func(f *api.Frame) { f.Token.Table.Rows = make([]api.Row, 1) })
	}
	for _, x := range wrongTokens() {
		put(good()[0], func(f *api.Frame) { f.Token = x })
	}
	return l
}

// busy is a node with a token, who waits for what it can't have, and a frame that its relay holds: it is nothing's place that is empty.
func busy(t *testing.T) *Node {
	t.Helper()
	n := theNode(t)
	given(t, n, 3, 1, start)
	steps(t, n, start, sends(beats(passOf(here, 2, stamped(tokenOf(3, 2), here, start)))...))
	given(t, n, 3, 2, start+1)
	waits(t, n, 70, 5, 2, start)
	return n
}

// refused holds that nothing comes of a frame but ErrArg: the node goes on as one that got no such frame.
func refused(t *testing.T, f api.Frame, now int) {
	t.Helper()
	n, twin := busy(t), busy(t)
	receives(t, n, f, now, fails(api.ErrArg))
	if got, want := looksOf(n), looksOf(twin); !sameLooks(got, want) {
		t.Errorf("%+v: it is %+v, not %+v", f, got, want)
	}
	sameFromNow(t, n, twin)
}

// sameFromNow holds that two nodes do the same from now on: whom they take for alive, what they hold, and when they stand.
func sameFromNow(t *testing.T, n, twin *Node) {
	t.Helper()
	if t.Failed() {
		return
	}
	for _, now := range []int{start + hear - 1, start + hear, start + loss, start + loss + 1, start + 2*loss} {
		var want said
		want.frames, want.answers, want.err = twin.Step(now)
		steps(t, n, now, want)
	}
	if got, want := looksOf(n), looksOf(twin); !sameLooks(got, want) {
		t.Errorf("it is %+v, not %+v", got, want)
	}
}

// TestFramesThatMayNotBe: G1, ErrArg, and nothing is done.
func TestFramesThatMayNotBe(t *testing.T) {
	for _, f := range wrongFrames() {
		refused(t, f, start+loss)
		if t.Failed() {
			t.Fatalf("%+v", f)
		}
	}
}

// TestFramesToOthers: G1, so is one to another node, of each kind.
func TestFramesToOthers(t *testing.T) {
	for _, f := range good() {
		for _, to := range []int{0, 2, 3, 63} {
			f.To = to
			refused(t, f, start+loss)
		}
	}
}

// TestFramesFromNone: G1, one from none of the ring, of each kind, in rings of all sizes that the issue names.
func TestFramesFromNone(t *testing.T) {
	for _, size := range []int{1, 2, 3, 63, 64} {
		for _, id := range []int{0, size - 1} {
			for from := size; from <= 65; from++ {
				n := made(t, sized(size), id, diskOf(t, roomy), start)
				for _, f := range good() {
					f.From, f.To = from, id
					receives(t, n, f, start, fails(api.ErrArg))
				}
				if got, want := looksOf(n), (looks{}); !sameLooks(got, want) {
					t.Errorf("of %d: it is %+v", size, got)
				}
			}
			n := made(t, sized(size), id, diskOf(t, roomy), start)
			for from := range size {
				receives(t, n, beatOf(from, id), start, said{})
				receives(t, n, ackOf(from, id, 5, 2), start, said{})
			}
		}
	}
	for _, from := range []int{3, 4, 63} {
		for _, f := range good() {
			f.From = from
			refused(t, f, start+loss)
		}
	}
}

// TestFramesAtNoReading: G1, ErrArg at a reading that is none, of each kind; the first and the last reading may be.
func TestFramesAtNoReading(t *testing.T) {
	for _, now := range noReadings() {
		for _, f := range good() {
			refused(t, f, now)
		}
	}
	for _, now := range []int{0, end - 1} {
		receives(t, theNode(t), good()[0], now, sends(ackOf(here, 2, 5, 1)))
		receives(t, theNode(t), good()[3], now, said{})
	}
}

// TestStepsAtNoReading: G1, so is a step: nobody is answered, and nothing sent.
func TestStepsAtNoReading(t *testing.T) {
	for _, now := range noReadings() {
		n, twin := busy(t), busy(t)
		waits(t, n, 8, 5, 1, 0)
		waits(t, twin, 8, 5, 1, 0)
		steps(t, n, now, fails(api.ErrArg))
		if got, want := looksOf(n), looksOf(twin); !sameLooks(got, want) {
			t.Errorf("it is %+v, not %+v", got, want)
		}
		sameFromNow(t, n, twin)
	}
	steps(t, theNode(t), 0, sends(beats()...))
	n := made(t, theConf(), here, diskOf(t, roomy), end-loss)
	steps(t, n, end-1, sends(beats()...))
}
