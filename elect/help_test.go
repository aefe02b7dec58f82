package elect

import (
	"math"
	"testing"

	"annona/api"
)

// top is how great a ballot, or a round, may be, by the document's words; end how great a number.
const (
	top = 1 << 40
	end = 1 << 62
)

// none is the result of what does nothing.
var none = Result{}

// made is an election that may be.
func made(t *testing.T, n, node, promised, round int) *Election {
	t.Helper()
	e, err := New(n, node, promised, round)
	if e == nil || err != api.OK {
		t.Fatalf("New(%d, %d, %d, %d): %v, %d", n, node, promised, round, e, err)
	}
	return e
}

// stood is an election of more than one node that stands, its bits the node's own one alone.
func stood(t *testing.T, n, node, promised int) *Election {
	t.Helper()
	e := made(t, n, node, promised, 0)
	b := next(n, promised, node)
	stands(t, e, Result{Send: true, Gen: b, Bits: of(node)})
	return e
}

// stands holds what standing tells, where there is a next ballot.
func stands(t *testing.T, e *Election, want Result) {
	t.Helper()
	if got, err := e.Stand(); got != want || err != api.OK {
		t.Errorf("Stand: %v, %d, not %v", got, err, want)
	}
}

// standsNot holds that standing tells an error, and nothing.
func standsNot(t *testing.T, e *Election, want api.Errno) {
	t.Helper()
	if got, err := e.Stand(); got != none || err != want {
		t.Errorf("Stand: %v, %d, not nothing and %d", got, err, want)
	}
}

// takes holds what comes of a ballot.
func takes(t *testing.T, e *Election, gen int, bits uint64, want Result) {
	t.Helper()
	if got := e.Take(gen, bits); got != want {
		t.Errorf("Take(%d, %b): %v, not %v", gen, bits, got, want)
	}
}

// raises holds whether a generation is promised.
func raises(t *testing.T, e *Election, gen int, want bool) {
	t.Helper()
	if got := e.Raise(gen); got != want {
		t.Errorf("Raise(%d): %t, not %t", gen, got, want)
	}
}

// has holds all that an election tells when asked; asked twice, since asking must change nothing.
func has(t *testing.T, e *Election, promised, round, standing int) {
	t.Helper()
	for range 2 {
		if p, r, s := e.Promised(), e.Round(), e.Standing(); p != promised || r != round || s != standing {
			t.Errorf("promised %d, round %d, standing %d, not %d, %d, %d", p, r, s, promised, round, standing)
		}
	}
}

// bitsAre holds the bits of an election that stands with a ballot; told by a frame that brings none.
func bitsAre(t *testing.T, e *Election, ballot int, want uint64) {
	t.Helper()
	for range 2 {
		takes(t, e, ballot, 0, Result{Gen: ballot, Bits: want})
	}
}

// next is the least ballot of a node above a number, by the words of chapter 3: n times a round, from 1 on, and its number.
func next(n, above, node int) int {
	round := max(1, above/n-1)
	for n*round+node <= above {
		round++
	}
	return n*round + node
}

// of is a set of nodes.
func of(nodes ...int) uint64 {
	var s uint64
	for _, i := range nodes {
		s |= 1 << i
	}
	return s
}

// from are the nodes from lo on, below hi.
func from(lo, hi int) uint64 {
	var s uint64
	for i := lo; i < hi; i++ {
		s |= 1 << i
	}
	return s
}

// places are a first and a last node, and one between if there is one, of each size of a ring that the issue names, and of some others.
func places() [][2]int {
	l := [][2]int{}
	for _, n := range []int{1, 2, 3, 4, 5, 33, 63, 64} {
		for _, node := range []int{0, n / 2, n - 1} {
			l = append(l, [2]int{n, node})
		}
	}
	return l
}

// greater are the places of rings of more than one, in which nobody wins at once.
func greater() [][2]int {
	return places()[3:]
}

// edges are ints at and beside the bounds that the chapters name, and at the ends.
func edges() []int {
	return []int{
		math.MinInt, math.MinInt + 1, -end, -top - 1, -top, -65, -64, -2, -1, 0, 1, 2, 3, 5, 62, 63, 64, 65, 127, 128,
		1<<31 - 1, 1 << 31, 1 << 32, top - 65, top - 64, top - 2, top - 1, top, top + 1, top + 64, end - 1, end, end + 1, math.MaxInt - 1, math.MaxInt,
	}
}

// noNumbers are ints that are neither promised nor a round.
func noNumbers() []int {
	return []int{-1, -2, -top, -end, math.MinInt, math.MinInt + 1, top + 1, top + 2, 2 * top, end, end + 1, math.MaxInt - 1, math.MaxInt}
}

// wide are sets: none, all, one, those of a ring, and those that are of none.
func wide() []uint64 {
	return []uint64{0, 1, 2, 3, 1 << 31, 1 << 32, 1 << 62, 1 << 63, 1<<63 | 1, math.MaxInt64, math.MaxUint64, math.MaxUint64 - 1, 0x5555555555555555, 0xaaaaaaaaaaaaaaaa}
}

// draw is a fixed rule's next, below n: the same ones each time.
func draw(x *uint64, n int) int {
	*x = *x*6364136223846793005 + 1442695040888963407
	return int(*x >> 33 % uint64(n))
}

// drawBits are 64 bits, few of them, half of them, or many.
func drawBits(x *uint64) uint64 {
	one := func() uint64 { return uint64(draw(x, 1<<31))<<33 ^ uint64(draw(x, 1<<31))<<16 ^ uint64(draw(x, 1<<31)) }
	switch draw(x, 4) {
	case 0:
		return one() & one() & one()
	case 1:
		return one() | one()
	case 2:
		return 1 << draw(x, 64)
	}
	return one()
}

// drawWide is an int of any length, now and then an edge.
func drawWide(x *uint64) int {
	l := edges()
	if draw(x, 4) == 0 {
		return l[draw(x, len(l))]
	}
	return (draw(x, 1<<31)<<31 | draw(x, 1<<31)) >> draw(x, 62)
}
