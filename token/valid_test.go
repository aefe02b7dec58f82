package token

import (
	"math"
	"math/big"
	"slices"
	"testing"
)

// checkValid holds the last reading at which a token with these stamps is valid, for a span, and the readings beside it, against what they must be.
func checkValid(t *testing.T, stamps []int, span, until int) {
	t.Helper()
	of := stamped(stamps...)
	if got := Until(of, span); got != until {
		t.Fatalf("%v for %d: until %d, not %d", stamps, span, got, until)
	}
	readings := append(edges(), until-1, until, until+1)
	for _, now := range readings {
		want := until >= 0 && (now <= until || until == end)
		if got := Valid(of, now, span); got != want {
			t.Fatalf("%v for %d, at %d: %t", stamps, span, now, got)
		}
	}
}

// K1, and the fourth of the whole's examples: a majority's m-th greatest stamp and the span say until when.
func TestValid(t *testing.T) {
	for _, c := range []struct {
		stamps []int
		span   int
		until  int
	}{
		{[]int{40, -1, 30, 35}, 5, 35},
		{[]int{40, 30, 35}, 5, 40},
		{[]int{30, 35, 40}, 5, 40},
		{[]int{40}, 5, 45},
		{[]int{0}, 0, 0},
		{[]int{0}, 1, 1},
		{[]int{-1}, 5, -1},
		{[]int{40, 30}, 5, 35},
		{[]int{30, 40}, 5, 35},
		{[]int{40, -1}, 5, -1},
		{[]int{-1, -1}, 5, -1},
		{[]int{40, 30, -1}, 5, 35},
		{[]int{-1, 0, 0}, 5, 5},
		{[]int{40, -1, -1}, 5, -1},
		{[]int{1, 2, 3, 4}, 10, 12},
		{[]int{4, 3, 2, -1}, 10, 12},
		{[]int{4, 3, -1, -1}, 10, -1},
		{[]int{1, 2, 3, 4, 5}, 10, 13},
		{[]int{-1, 2, 3, 4, -1}, 10, 12},
		{[]int{-1, -1, 3, 4, -1}, 10, -1},
		{[]int{7, 7, 7}, 5, 12},
		{[]int{7, 7, 9, 9}, 5, 12},
		{[]int{9, 7, 9, 9}, 5, 14},
		{[]int{9, 7, 7, 7, 9}, 5, 12},
		{[]int{9, 7, 9, 7, 9}, 5, 14},
		{[]int{7, 7, -1}, 0, 7},
		{[]int{0, 0, -1, -1}, 9, -1},
		{[]int{-2, 5, 6}, 1, 6},
		{[]int{math.MinInt, 5, 6}, 1, 6},
		{[]int{math.MinInt, -5, 6}, 1, -1},
		{nil, 5, -1},
		{[]int{}, end, -1},
		{[]int{40, 30, 35}, -1, 35},
		{[]int{40, 30, 35}, math.MinInt, 35},
		{[]int{40, 30, 35}, end - 36, end - 1},
		{[]int{40, 30, 35}, end - 35, end},
		{[]int{40, 30, 35}, end, end},
		{[]int{40, 30, 35}, math.MaxInt, end},
		{[]int{end - 1, end - 1}, 0, end - 1},
		{[]int{end - 1, end - 1}, 1, end},
		{[]int{end - 1, end - 1}, 2, end},
		{[]int{end - 1, end - 1}, math.MaxInt, end},
		{[]int{end, end + 1}, 0, end},
		{[]int{math.MaxInt, math.MaxInt, 0}, math.MaxInt, end},
		{[]int{math.MaxInt, 5, 0}, 6, 11},
		{[]int{-1, -1}, math.MaxInt, -1},
	} {
		checkValid(t, c.stamps, c.span, c.until)
	}
}

// K1: of no stamps no token is valid, whatever is asked.
func TestNeverValid(t *testing.T) {
	for _, stamps := range [][]int{nil, {}, {-1}, {-1, -1, -1}, {9, -1}, {9, 9, -1, -1}, slices.Repeat([]int{-1}, 64)} {
		for _, span := range edges() {
			checkValid(t, stamps, span, -1)
		}
	}
}

// K1: as many stamps must count as a majority of all nodes needs, of 1 to 64 nodes.
func TestMajorityCounts(t *testing.T) {
	for n := 1; n <= 64; n++ {
		m := majority(n)
		stamps := slices.Repeat([]int{-1}, n)
		for i := range m {
			stamps[n-1-i] = 50 + i
		}
		checkValid(t, stamps, 5, 55)
		stamps[n-1] = -1
		checkValid(t, stamps, 5, -1)
		stamps[n-1] = 0
		checkValid(t, stamps, 5, 5)
		for i := range n {
			stamps[i] = 100 + i
		}
		// Of rising stamps so many are as late as the m-th greatest, or later.
		checkValid(t, stamps, 5, 105+n-m)
		slices.Reverse(stamps)
		checkValid(t, stamps, 5, 105+n-m)
	}
}

// K1: a token of more stamps than may be is valid by all of them.
func TestMoreStampsThanMayBe(t *testing.T) {
	stamps := slices.Repeat([]int{-1}, 70)
	for i := 34; i < 70; i++ {
		stamps[i] = 50 + i
	}
	checkValid(t, stamps, 5, 89)
	stamps[69] = -1
	checkValid(t, stamps, 5, -1)
}

// K1, held against its words, of drawn stamps, readings and spans.
func TestValidDrawn(t *testing.T) {
	x := uint64(106)
	valid, never, over := 0, 0, 0
	for range 30000 {
		stamps := drawStamps(&x, []int{0, 1, 2, 3, 4, 5, 6, 7, 9, 64}[draw(&x, 10)])
		span, now := drawNear(&x), drawNear(&x)
		of := stamped(stamps...)
		until := Until(of, span)
		if want := plainUntil(stamps, span); until != want {
			t.Fatalf("%v for %d: until %d, not %d", stamps, span, until, want)
		}
		for _, at := range []int{now, until, until + 1, until - 1} {
			got := Valid(of, at, span)
			if want := plainValid(stamps, at, span); got != want {
				t.Fatalf("%v for %d, at %d: %t", stamps, span, at, got)
			}
			if got {
				valid++
			}
		}
		switch {
		case until < 0:
			never++
		case until == end:
			over++
		}
	}
	if valid < 20000 || never < 3000 || over < 1000 {
		t.Errorf("%d are valid, %d never, %d to the end", valid, never, over)
	}
}

// Until by what it says: the token is valid at what it tells, and not one later.
func TestUntilIsLast(t *testing.T) {
	x := uint64(107)
	for range 20000 {
		of, span := drawToken(&x), drawNear(&x)
		until := Until(of, span)
		if until < -1 || until > end {
			t.Fatalf("%v for %d: until %d", of.Stamps, span, until)
		}
		if until < 0 {
			for _, now := range []int{math.MinInt, -1, 0, 1, end, math.MaxInt, drawNear(&x)} {
				if Valid(of, now, span) {
					t.Fatalf("%v for %d is valid at %d, and never", of.Stamps, span, now)
				}
			}
			continue
		}
		// Behind 2^62 there are no more readings: what is above counts as 2^62.
		if !Valid(of, until, span) || until < end && Valid(of, until+1, span) {
			t.Fatalf("%v for %d: until %d", of.Stamps, span, until)
		}
		if now := drawNear(&x); number(now).Cmp(number(until)) <= 0 != Valid(of, now, span) {
			t.Fatalf("%v for %d, until %d: at %d", of.Stamps, span, until, now)
		}
	}
}

// late are the nodes that stamped not earlier than a reading less a span, as bits.
func late(stamps []int, now, span int) uint64 {
	var s uint64
	since := asNumber(new(big.Int).Sub(number(now), number(span)))
	for i, x := range stamps {
		if x >= 0 && number(x).Cmp(since) >= 0 {
			s |= 1 << i
		}
	}
	return s
}

// bitsOf is how many bits are set.
func bitsOf(s uint64) int {
	n := 0
	for ; s > 0; s >>= 1 {
		n += int(s & 1)
	}
	return n
}

// P10.2 by what it says: if a token is valid, a majority stamped it of late; of any majority of its nodes, one did.
func TestOfAnyMajority(t *testing.T) {
	x := uint64(108)
	valid := 0
	for range 12000 {
		stamps := drawStamps(&x, 1+draw(&x, 8))
		now, span := drawNear(&x), drawNear(&x)
		if !Valid(stamped(stamps...), now, span) {
			continue
		}
		valid++
		of := late(stamps, now, span)
		if 2*bitsOf(of) <= len(stamps) {
			t.Fatalf("%v for %d, at %d: no majority is late", stamps, span, now)
		}
		for s := range uint64(1) << len(stamps) {
			if 2*bitsOf(s) > len(stamps) && s&of == 0 {
				t.Fatalf("%v for %d, at %d: none of %b is late", stamps, span, now, s)
			}
		}
	}
	if valid < 3000 {
		t.Errorf("only %d are valid", valid)
	}
}

// P10.2 of many nodes: those that did not stamp it of late are no majority, so that there is none without one who did.
func TestOfMany(t *testing.T) {
	x := uint64(109)
	valid := 0
	for range 4000 {
		n := 9 + draw(&x, 56)
		stamps := drawStamps(&x, n)
		for range draw(&x, 30) {
			stamps[draw(&x, n)] = 60
		}
		now, span := 50+draw(&x, 30), draw(&x, 20)
		if !Valid(stamped(stamps...), now, span) {
			continue
		}
		valid++
		did := bitsOf(late(stamps, now, span))
		if did < majority(n) || n-did >= majority(n) {
			t.Fatalf("%v for %d, at %d: %d of %d are late", stamps, span, now, did, n)
		}
	}
	if valid < 500 {
		t.Errorf("only %d are valid", valid)
	}
}
