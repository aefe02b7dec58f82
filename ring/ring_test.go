package ring

import (
	"math"
	"slices"
	"testing"

	"annona/api"
)

const full = Set(math.MaxUint64)

// of is the set of some nodes, made bit by bit.
func of(l ...int) Set {
	s := Set(0)
	for _, i := range l {
		s |= 1 << i
	}
	return s
}

// drawn are n wide numbers, by a fixed rule: the same ones each time.
func drawn(n int) []uint64 {
	l := make([]uint64, n)
	x := uint64(2026)
	for i := range l {
		x = x*6364136223846793005 + 1442695040888963407
		l[i] = x ^ x>>29
	}
	return l
}

// sets are the edges, and drawn ones: full ones, thin ones and thick ones.
func sets() []Set {
	l := []Set{0, 1, 2, 3, 5, of(63), of(62), of(0, 63), of(1, 62), of(31, 32), full, full - 1, full >> 1, full >> 32, full - full>>32, full &^ (3 << 31)}
	d := drawn(60)
	for i := 0; i < len(d); i += 3 {
		a, b, c := Set(d[i]), Set(d[i+1]), Set(d[i+2])
		l = append(l, a, a&b&c, a|b|c)
	}
	return l
}

// ints are ints at and beside all that the chapter names.
func ints() []int {
	l := []int{math.MinInt, math.MinInt + 1, math.MinInt32, -65, -64, -63, -2, -1}
	for i := range 68 {
		l = append(l, i)
	}
	return append(l, 127, 128, 129, 255, 256, 1<<31-1, 1<<31, 1<<32, 1<<32+1, 1<<62, 1<<62+1, math.MaxInt-64, math.MaxInt-1, math.MaxInt)
}

// isNode is what a node is, by the chapter's words.
func isNode(i int) bool { return i == 0 || i > 0 && i <= 63 }

func TestLimit(t *testing.T) {
	if api.MaxNodes != 64 {
		t.Fatalf("there may be %d nodes, not 64", api.MaxNodes)
	}
}

func TestAll(t *testing.T) {
	for _, r := range []struct {
		n    int
		want Set
	}{
		{math.MinInt, 0}, {-64, 0}, {-63, 0}, {-1, 0}, {0, 0},
		{1, 1}, {2, 3}, {3, 7}, {4, 15}, {5, 31}, {8, 255}, {31, 1<<31 - 1}, {32, 1<<32 - 1}, {33, 1<<33 - 1}, {62, 1<<62 - 1}, {63, 1<<63 - 1}, {64, full},
		{65, 0}, {66, 0}, {127, 0}, {128, 0}, {129, 0}, {1 << 32, 0}, {1<<32 + 1, 0}, {math.MaxInt, 0},
	} {
		if got := All(r.n); got != r.want {
			t.Errorf("All(%d): %x, not %x", r.n, got, r.want)
		}
	}
	for n := 1; n <= 64; n++ {
		for i := range 64 {
			if got := All(n)>>i&1 == 1; got != (i < n) {
				t.Errorf("All(%d): node %d is in it: %v", n, i, got)
			}
		}
	}
}

func TestHas(t *testing.T) {
	s := of(0, 2, 5, 63)
	for _, i := range ints() {
		want := i == 0 || i == 2 || i == 5 || i == 63
		if got := s.Has(i); got != want {
			t.Errorf("Has(%d): %v", i, got)
		}
		if Set(0).Has(i) {
			t.Errorf("the empty set has %d", i)
		}
		if got := full.Has(i); got != isNode(i) {
			t.Errorf("the set of all 64 has %d: %v", i, got)
		}
	}
}

func TestWithAndWithout(t *testing.T) {
	for _, r := range []struct {
		name      string
		got, want Set
	}{
		{"with a new one", of(0, 2).With(1), of(0, 1, 2)},
		{"with one that is in it", of(0, 2).With(2), of(0, 2)},
		{"with 0", of(5).With(0), of(0, 5)},
		{"with 63", of(5).With(63), of(5, 63)},
		{"with 64", of(5).With(64), of(5)},
		{"with 65", of(5).With(65), of(5)},
		{"with -1", of(5).With(-1), of(5)},
		{"with -64", of(5).With(-64), of(5)},
		{"with the least int", of(5).With(math.MinInt), of(5)},
		{"with the greatest int", of(5).With(math.MaxInt), of(5)},
		{"the empty set with one", Set(0).With(7), of(7)},
		{"the empty set with 64", Set(0).With(64), 0},
		{"all 64 with one", full.With(7), full},
		{"all 64 with 64", full.With(64), full},
		{"all but one with it", (full - 1).With(0), full},
		{"without one", of(0, 1, 2).Without(1), of(0, 2)},
		{"without one that is not in it", of(0, 2).Without(1), of(0, 2)},
		{"without 0", of(0, 5).Without(0), of(5)},
		{"without 63", of(5, 63).Without(63), of(5)},
		{"without 64", of(0, 5).Without(64), of(0, 5)},
		{"without 69", of(0, 5).Without(69), of(0, 5)},
		{"without -1", of(0, 63).Without(-1), of(0, 63)},
		{"without -64", of(0, 5).Without(-64), of(0, 5)},
		{"without the least int", of(0, 5).Without(math.MinInt), of(0, 5)},
		{"without the greatest int", of(0, 63).Without(math.MaxInt), of(0, 63)},
		{"the empty set without one", Set(0).Without(7), 0},
		{"the only one away", of(7).Without(7), 0},
		{"all 64 without one", full.Without(63), full >> 1},
		{"all 64 without 64", full.Without(64), full},
	} {
		if r.got != r.want {
			t.Errorf("%s: %x, not %x", r.name, r.got, r.want)
		}
	}
}

// TestOneNodeAlone: With and Without change what they name, and nothing else.
func TestOneNodeAlone(t *testing.T) {
	for _, s := range sets() {
		for _, i := range ints() {
			with, without := s.With(i), s.Without(i)
			if with.Has(i) != isNode(i) || without.Has(i) {
				t.Errorf("%x with %d: %x; without: %x", s, i, with, without)
			}
			for j := range 64 {
				if j != i && (with.Has(j) != s.Has(j) || without.Has(j) != s.Has(j)) {
					t.Errorf("%x with %d: %x; without: %x: node %d", s, i, with, without, j)
				}
			}
			if !isNode(i) && (with != s || without != s) {
				t.Errorf("%x with what is no node, %d: %x; without: %x", s, i, with, without)
			}
		}
	}
}

func TestCountAndNodes(t *testing.T) {
	for _, l := range [][]int{{}, {0}, {63}, {0, 63}, {1, 2, 3}, {7, 31, 32, 33, 62}, {0, 2, 4, 6, 8, 10}} {
		s := of(l...)
		if got := s.Count(); got != len(l) {
			t.Errorf("Count of %v: %d", l, got)
		}
		if got := s.Nodes(); !slices.Equal(got, l) {
			t.Errorf("Nodes of %v: %v", l, got)
		}
	}
	for _, s := range sets() {
		var want []int
		for i := range 64 {
			if s>>i&1 == 1 {
				want = append(want, i)
			}
		}
		if got := s.Nodes(); !slices.Equal(got, want) {
			t.Errorf("Nodes of %x: %v, not %v", s, got, want)
		}
		if got := s.Count(); got != len(want) {
			t.Errorf("Count of %x: %d, not %d", s, got, len(want))
		}
		if got := of(s.Nodes()...); got != s {
			t.Errorf("the set of the nodes of %x: %x", s, got)
		}
	}
	if got := full.Count(); got != 64 {
		t.Errorf("Count of all 64: %d", got)
	}
	if got := Set(0).Nodes(); len(got) != 0 {
		t.Errorf("Nodes of the empty set: %v", got)
	}
}

// TestStop: who goes through nodes may stop at any of them.
func TestStop(t *testing.T) {
	for last := range 4 {
		var nodes, round []int
		for i := range of(0, 1, 2, 3).rising() {
			nodes = append(nodes, i)
			if i == last {
				break
			}
		}
		for i := range behind(5, 4) {
			round = append(round, i)
			if i == last {
				break
			}
		}
		if len(nodes) != last+1 || len(round) != last+1 {
			t.Errorf("up to %d: %v and %v", last, nodes, round)
		}
	}
}

// TestNodesAreNew: rule 4, what Nodes tells is new memory, also behind its length.
func TestNodesAreNew(t *testing.T) {
	s := of(1, 4, 9)
	a, b := s.Nodes(), s.Nodes()
	for i := range a {
		a[i] = 77
	}
	_ = append(a, 78, 79)
	if want := []int{1, 4, 9}; !slices.Equal(b, want) || !slices.Equal(s.Nodes(), want) {
		t.Errorf("Nodes, after an earlier answer was written into: %v and %v", b, s.Nodes())
	}
}

func TestNext(t *testing.T) {
	for _, r := range []struct {
		name       string
		s          Set
		n, i, want int
	}{
		{"the one behind", of(0, 1, 2, 3), 4, 1, 2},
		{"behind the last one comes 0", of(0, 1, 2, 3), 4, 3, 0},
		{"over who is not in it", of(0, 1, 3), 4, 1, 3},
		{"over who is not in it, and round", of(1, 2), 5, 2, 1},
		{"two of them, to and fro", of(1, 4), 5, 4, 1},
		{"i is its only node", of(2), 4, 2, 2},
		{"another one is its only node, behind", of(3), 4, 0, 3},
		{"another one is its only node, ahead", of(0), 4, 3, 0},
		{"the empty set", 0, 4, 2, 2},
		{"the empty set, node 0", 0, 4, 0, 0},
		{"the empty set, ring of 1", 0, 1, 0, 0},
		{"i is not in it", of(0, 3), 4, 1, 3},
		{"i is not in it, and round", of(0, 1), 4, 2, 0},
		{"ring of 1", of(0), 1, 0, 0},
		{"ring of 1, others in the set", full, 1, 0, 0},
		{"ring of 64", full, 64, 5, 6},
		{"ring of 64, last", full, 64, 63, 0},
		{"ring of 64, far round", of(62, 63), 64, 63, 62},
		{"ring of 64, only the one ahead", of(31), 64, 32, 31},
		{"those that are none of the ring's", of(0, 1, 5, 63), 4, 1, 0},
		{"only such ones", of(4, 5, 63), 4, 2, 2},
		{"n itself in the set", of(1, 4), 4, 3, 1},
		{"ring of 63, node 63 in the set", of(0, 63), 63, 62, 0},
		{"n is 0", full, 0, 0, -1},
		{"n is below 0", full, -1, 0, -1},
		{"n is the least int", full, math.MinInt, 0, -1},
		{"n is 65", full, 65, 3, -1},
		{"n is the greatest int", full, math.MaxInt, 3, -1},
		{"n is 1 more than 2^32", full, 1<<32 + 1, 0, -1},
		{"i is n", full, 4, 4, -1},
		{"i is above n", full, 4, 5, -1},
		{"i is below 0", full, 4, -1, -1},
		{"i is the least int", full, 4, math.MinInt, -1},
		{"i is the greatest int", full, 64, math.MaxInt, -1},
		{"i is 64", full, 64, 64, -1},
		{"neither", full, 0, -1, -1},
		{"i is none of the ring's, and the set is empty", 0, 4, 4, -1},
		{"n is none, and the set is empty", 0, 0, 0, -1},
	} {
		if got := r.s.Next(r.n, r.i); got != r.want {
			t.Errorf("%s: %d, not %d", r.name, got, r.want)
		}
	}
}

// nextOf is what Next must tell, worked out by how far each node is behind i.
func nextOf(s Set, n, i int) int {
	if n < 1 || n > 64 || i < 0 || i >= n {
		return -1
	}
	best, far := i, n
	for j := range n {
		d := j - i
		if d < 0 {
			d += n
		}
		if s>>j&1 == 1 && d > 0 && d < far {
			best, far = j, d
		}
	}
	return best
}

func TestNextEverywhere(t *testing.T) {
	l := ints()
	for _, s := range sets() {
		for _, n := range l {
			for _, i := range l {
				if got, want := s.Next(n, i), nextOf(s, n, i); got != want {
					t.Fatalf("Next(%d, %d) of %x: %d, not %d", n, i, s, got, want)
				}
			}
		}
	}
}

func TestMajority(t *testing.T) {
	for _, r := range [][2]int{
		{math.MinInt, 0}, {-5, 0}, {-4, 0}, {-2, 0}, {-1, 0}, {0, 0},
		{1, 1}, {2, 2}, {3, 2}, {4, 3}, {5, 3}, {6, 4}, {7, 4}, {63, 32}, {64, 33}, {65, 33}, {100, 51}, {101, 51},
		{math.MaxInt - 1, 1 << 62}, {math.MaxInt, 1 << 62},
	} {
		if got := Majority(r[0]); got != r[1] {
			t.Errorf("Majority(%d): %d, not %d", r[0], got, r[1])
		}
	}
	for n := 1; n < 1000; n++ {
		m := Majority(n)
		if 2*m <= n || 2*(m-1) > n {
			t.Errorf("Majority(%d): %d is not the least that is more than half", n, m)
		}
	}
}

func TestNth(t *testing.T) {
	for _, r := range []struct {
		name string
		l    []int
		m    int
		want int
		ok   bool
	}{
		{"the greatest", []int{3, 9, 1, 7}, 1, 9, true},
		{"the second", []int{3, 9, 1, 7}, 2, 7, true},
		{"the third", []int{3, 9, 1, 7}, 3, 3, true},
		{"as many as there are", []int{3, 9, 1, 7}, 4, 1, true},
		{"more than there are", []int{3, 9, 1, 7}, 5, 0, false},
		{"far more than there are", []int{3, 9, 1, 7}, math.MaxInt, 0, false},
		{"0th", []int{3, 9, 1, 7}, 0, 0, false},
		{"below 0", []int{3, 9, 1, 7}, -1, 0, false},
		{"the least int", []int{3, 9, 1, 7}, math.MinInt, 0, false},
		{"of no numbers", nil, 1, 0, false},
		{"of no numbers, 0th", nil, 0, 0, false},
		{"of an empty list", []int{}, 1, 0, false},
		{"of one", []int{-5}, 1, -5, true},
		{"of one, the second", []int{-5}, 2, 0, false},
		{"several times, first", []int{4, 9, 9, 4, 9}, 1, 9, true},
		{"several times, second", []int{4, 9, 9, 4, 9}, 2, 9, true},
		{"several times, third", []int{4, 9, 9, 4, 9}, 3, 9, true},
		{"several times, fourth", []int{4, 9, 9, 4, 9}, 4, 4, true},
		{"several times, fifth", []int{4, 9, 9, 4, 9}, 5, 4, true},
		{"several times, sixth", []int{4, 9, 9, 4, 9}, 6, 0, false},
		{"all the same", []int{6, 6, 6}, 3, 6, true},
		{"below 0", []int{-3, -9, -1}, 2, -3, true},
		{"both signs", []int{-3, 0, 5}, 2, 0, true},
		{"least and greatest", []int{math.MinInt, math.MaxInt, 0}, 1, math.MaxInt, true},
		{"least and greatest, last", []int{math.MinInt, math.MaxInt, 0}, 3, math.MinInt, true},
		{"falling", []int{5, 4, 3, 2, 1}, 2, 4, true},
		{"rising", []int{1, 2, 3, 4, 5}, 2, 4, true},
	} {
		got, ok := Nth(r.l, r.m)
		if got != r.want || ok != r.ok {
			t.Errorf("%s: %d, %v, not %d, %v", r.name, got, ok, r.want, r.ok)
		}
	}
}

// TestNthLeavesTheList: rule 4, what is handed in is left as it was, and what lies behind its length is neither read nor written.
func TestNthLeavesTheList(t *testing.T) {
	l := []int{5, 2, 8, 1, 99, 98}
	was := slices.Clone(l)
	for m := range 8 {
		if got, ok := Nth(l[:4], m); ok != (m >= 1 && m <= 4) || got > 8 {
			t.Errorf("of a part of a list, the %d-th: %d, %v", m, got, ok)
		}
	}
	if !slices.Equal(l, was) {
		t.Errorf("the list is %v, and was %v", l, was)
	}
	a, _ := Nth(l, 1)
	l[4] = 0
	if b, _ := Nth(l, 1); a != 99 || b != 98 {
		t.Errorf("the list was kept: %d, and then %d", a, b)
	}
}

// TestTheyMeet: P2.2, two sets of nodes of a ring of n, each of a majority, have one in common.
func TestTheyMeet(t *testing.T) {
	for n := 1; n <= 8; n++ {
		for a := Set(0); a <= All(n); a++ {
			for b := Set(0); b <= All(n); b++ {
				if a.Count() >= Majority(n) && b.Count() >= Majority(n) && a&b == 0 {
					t.Errorf("of %d, %x and %x don't meet", n, a, b)
				}
			}
		}
	}
	// Farthest apart: the first ones of a ring, and the last ones.
	for n := 1; n <= 64; n++ {
		m := Majority(n)
		first := All(m)
		last := All(n) &^ All(n-m)
		if first.Count() != m || last.Count() != m || (first&last).Count() != 2*m-n || first&last == 0 {
			t.Errorf("of %d, the first %d, %x, and the last ones, %x", n, m, first, last)
		}
	}
}

// TestFewerNeedNotMeet: no lesser number than a majority would do.
func TestFewerNeedNotMeet(t *testing.T) {
	for n := 2; n <= 64; n++ {
		m := Majority(n) - 1
		first, rest := All(m), All(n)&^All(m)
		if first.Count() < m || rest.Count() < m || first&rest != 0 {
			t.Errorf("of %d, %x and %x", n, first, rest)
		}
	}
}

// roundFrom goes Next by Next from i on, till it comes back, or for 65 steps.
func roundFrom(s Set, n, i int) []int {
	l := []int{}
	for at := s.Next(n, i); len(l) < 65; at = s.Next(n, at) {
		l = append(l, at)
		if at == i {
			break
		}
	}
	return l
}

// TestOnceRound: P2.3, from any node of a set on, each other one comes once, and then that one.
func TestOnceRound(t *testing.T) {
	check := func(s Set, n int) {
		ring := (s & All(n)).Nodes()
		for k, i := range ring {
			want := append(slices.Clone(ring[k+1:]), ring[:k+1]...)
			if got := roundFrom(s, n, i); !slices.Equal(got, want) {
				t.Errorf("set %x, ring of %d, from %d: %v, not %v", s, n, i, got, want)
			}
		}
	}
	for n := 1; n <= 8; n++ {
		for s := Set(0); s <= All(n+1); s++ {
			check(s, n)
		}
	}
	for n := 1; n <= 64; n++ {
		for _, s := range sets() {
			check(s, n)
		}
	}
}

// TestEnough: P2.4, at least m of some numbers are the m-th greatest, or more; fewer than m are more.
func TestEnough(t *testing.T) {
	for size := range 40 {
		l := make([]int, size)
		for i, x := range drawn(size) {
			l[i] = int(x>>40%11) - 5
		}
		for m := 1; m <= size; m++ {
			x, ok := Nth(l, m)
			atLeast, more := 0, 0
			for _, y := range l {
				if y >= x {
					atLeast++
				}
				if y > x {
					more++
				}
			}
			if !ok || !slices.Contains(l, x) || atLeast < m || more >= m {
				t.Errorf("the %d-th of %v: %d, %v; %d are that or more, %d are more", m, l, x, ok, atLeast, more)
			}
		}
		if x, ok := Nth(l, size+1); ok || x != 0 {
			t.Errorf("the %d-th of %v: %d, %v", size+1, l, x, ok)
		}
	}
}

// everyCall is what all calls tell at all kinds of arguments.
func everyCall() []int {
	var out []int
	bit := func(b bool) int {
		if b {
			return 1
		}
		return 0
	}
	some := []int{3, -7, 12, 0, 12}
	for _, i := range ints() {
		x, ok := Nth(some, i)
		none, no := Nth(nil, i)
		out = append(out, int(All(i)), Majority(i), x, bit(ok), none, bit(no))
		for _, s := range sets() {
			out = append(out, bit(s.Has(i)), int(s.With(i)), int(s.Without(i)), s.Count(), s.Next(i, i), s.Next(64, i), s.Next(i, 3))
			out = append(out, s.Nodes()...)
		}
	}
	return out
}

// TestArgumentsAlone: P1, every call ends and none panics; P2, what it answers hangs on its arguments alone.
func TestArgumentsAlone(t *testing.T) {
	first := everyCall()
	if !slices.Equal(first, everyCall()) {
		t.Error("the same calls told something else")
	}
}
