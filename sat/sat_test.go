package sat

import (
	"math"
	"math/big"
	"slices"
	"testing"

	"annona/api"
)

const end = api.Forever

// row is one call with what it must answer.
type row struct {
	name      string
	got, want int
}

func check(t *testing.T, rows []row) {
	t.Helper()
	for _, r := range rows {
		if r.got != r.want {
			t.Errorf("%s: %d, not %d", r.name, r.got, r.want)
		}
	}
}

// edges are ints at and beside all that the chapter names, with their halves and roots.
func edges() []int {
	return []int{
		math.MinInt, math.MinInt + 1, -end - 1, -end, -end + 1, -1 << 32, -7, -2, -1,
		0, 1, 2, 3, 7, 10, 1000,
		1<<31 - 1, 1 << 31, 1<<31 + 1, 1<<32 - 1, 1 << 32, 1<<32 + 1,
		end/3 - 1, end / 3, end/3 + 1, end/2 - 1, end / 2, end/2 + 1,
		end - 2, end - 1, end, end + 1, end + 2,
		math.MaxInt - 1, math.MaxInt,
	}
}

// drawn are ints of all sizes and both signs, by a fixed rule: the same ones each time.
func drawn(n int) []int {
	l := make([]int, n)
	x := uint64(2026)
	for i := range l {
		x = x*6364136223846793005 + 1442695040888963407
		l[i] = int(x) >> ((x >> 33) % 63)
	}
	return l
}

// samples are the edges and some drawn ones.
func samples() []int {
	return append(edges(), drawn(60)...)
}

// wide is an int as a number, without bounds on what is made of it.
func wide(x int) *big.Int {
	switch {
	case x < 0:
		return big.NewInt(0)
	case x > end:
		return big.NewInt(end)
	}
	return big.NewInt(int64(x))
}

// narrow is what comes of it, as a number.
func narrow(x *big.Int) int {
	switch {
	case x.Sign() < 0:
		return 0
	case x.Cmp(big.NewInt(end)) > 0:
		return end
	}
	return int(x.Int64())
}

func TestEnd(t *testing.T) {
	if end != 1<<62 {
		t.Fatalf("2^62 is %d", end)
	}
}

func TestFit(t *testing.T) {
	check(t, []row{
		{"7", Fit(7), 7},
		{"0", Fit(0), 0},
		{"1", Fit(1), 1},
		{"-1", Fit(-1), 0},
		{"-2^62", Fit(-end), 0},
		{"least int", Fit(math.MinInt), 0},
		{"2^62-1", Fit(end - 1), end - 1},
		{"2^62", Fit(end), end},
		{"2^62+1", Fit(end + 1), end},
		{"greatest int", Fit(math.MaxInt), end},
	})
	for _, x := range samples() {
		if got, want := Fit(x), narrow(wide(x)); got != want {
			t.Errorf("Fit(%d): %d, not %d", x, got, want)
		}
	}
}

func TestAdd(t *testing.T) {
	check(t, []row{
		{"none", Add(), 0},
		{"nil", Add([]int(nil)...), 0},
		{"one", Add(7), 7},
		{"one below 0", Add(-7), 0},
		{"one above 2^62", Add(end + 1), end},
		{"two", Add(4, 5), 9},
		{"many", Add(1, 2, 3, 4, 5, 6, 7, 8, 9, 10), 55},
		{"below 0 counts as 0", Add(5, -9), 5},
		{"below 0 ahead", Add(-9, 5, -9), 5},
		{"least ints", Add(math.MinInt, math.MinInt, 3), 3},
		{"2^62-1", Add(end-2, 1), end - 1},
		{"2^62", Add(end-1, 1), end},
		{"halves", Add(end/2, end/2), end},
		{"halves less 1", Add(end/2, end/2-1), end - 1},
		{"2^62 and 0", Add(end, 0), end},
		{"beyond", Add(end-1, 2), end},
		{"twice 2^62", Add(end, end), end},
		{"four times 2^62", Add(end, end, end, end), end},
		{"greatest ints", Add(math.MaxInt, math.MaxInt, math.MaxInt), end},
		{"above 2^62 counts as 2^62", Add(end+5, -5), end},
		{"full, and then below 0", Add(end, 1, -9), end},
	})
}

func TestAddExact(t *testing.T) {
	l := samples()
	for i, a := range l {
		for j, b := range l {
			c := l[(i*7+j*3)%len(l)]
			two := new(big.Int).Add(wide(a), wide(b))
			three := new(big.Int).Add(two, wide(c))
			check(t, []row{{"two", Add(a, b), narrow(two)}, {"three", Add(a, b, c), narrow(three)}})
		}
	}
}

func TestAddMany(t *testing.T) {
	ones := make([]int, 100000)
	for i := range ones {
		ones[i] = 1
	}
	if got := Add(ones...); got != len(ones) {
		t.Errorf("ones: %d, not %d", got, len(ones))
	}
	if got := Add(append(ones, end-len(ones)-1)...); got != end-1 {
		t.Errorf("one less than 2^62: %d", got)
	}
	if got := Add(append(ones, end-len(ones))...); got != end {
		t.Errorf("2^62: %d", got)
	}
	if got := Add(append(ones, end-len(ones)+1)...); got != end {
		t.Errorf("beyond: %d", got)
	}
}

func TestSub(t *testing.T) {
	check(t, []row{
		{"more", Sub(9, 4), 5},
		{"same", Sub(9, 9), 0},
		{"less", Sub(4, 9), 0},
		{"of 0", Sub(0, end), 0},
		{"0", Sub(4, 0), 4},
		{"below 0 counts as 0", Sub(4, -9), 4},
		{"of below 0", Sub(-9, 4), 0},
		{"both below 0", Sub(-4, -9), 0},
		{"of above 2^62", Sub(end+9, end), 0},
		{"of above 2^62, less 1", Sub(end+9, 1), end - 1},
		{"above 2^62", Sub(end, end+9), 0},
		{"2^62 less 1", Sub(end, 1), end - 1},
		{"2^62 less 2^62-1", Sub(end, end-1), 1},
		{"greatest less least", Sub(math.MaxInt, math.MinInt), end},
		{"least less greatest", Sub(math.MinInt, math.MaxInt), 0},
		{"least less least", Sub(math.MinInt, math.MinInt), 0},
	})
	l := samples()
	for _, a := range l {
		for _, b := range l {
			want := narrow(new(big.Int).Sub(wide(a), wide(b)))
			if got := Sub(a, b); got != want {
				t.Errorf("Sub(%d, %d): %d, not %d", a, b, got, want)
			}
		}
	}
}

func TestMul(t *testing.T) {
	check(t, []row{
		{"ordinary", Mul(6, 7), 42},
		{"by 1", Mul(9, 1), 9},
		{"by 0", Mul(end, 0), 0},
		{"of 0", Mul(0, end), 0},
		{"below 0", Mul(-3, 4), 0},
		{"both below 0", Mul(-3, -4), 0},
		{"2^62", Mul(1<<31, 1<<31), end},
		{"2^62 by a half", Mul(1<<61, 2), end},
		{"2^62 by 1", Mul(end, 1), end},
		{"2^62-1", Mul(1<<31-1, 1<<31+1), end - 1},
		{"2^62-1 by a third", Mul(end/3, 3), end - 1},
		{"beyond by a third", Mul(end/3+1, 3), end},
		{"just beyond", Mul(1<<31, 1<<31+1), end},
		{"2^63", Mul(1<<31, 1<<32), end},
		{"2^64, which wraps to 0", Mul(1<<32, 1<<32), end},
		{"beyond 2^64, which wraps to a little", Mul(1<<32+1, 1<<32), end},
		{"2^124", Mul(end, end), end},
		{"greatest ints", Mul(math.MaxInt, math.MaxInt), end},
		{"least ints", Mul(math.MinInt, math.MinInt), 0},
		{"least by -1", Mul(math.MinInt, -1), 0},
		{"greatest by 1", Mul(math.MaxInt, 1), end},
	})
	l := samples()
	for _, a := range l {
		for _, b := range l {
			want := narrow(new(big.Int).Mul(wide(a), wide(b)))
			if got := Mul(a, b); got != want {
				t.Errorf("Mul(%d, %d): %d, not %d", a, b, got, want)
			}
		}
	}
}

// ceilOf is a number by another one, rounded up, worked out without bounds.
func ceilOf(a, b int) int {
	if wide(b).Sign() == 0 {
		return end
	}
	q, m := new(big.Int).DivMod(wide(a), wide(b), new(big.Int))
	if m.Sign() > 0 {
		q.Add(q, big.NewInt(1))
	}
	return narrow(q)
}

func TestCeil(t *testing.T) {
	check(t, []row{
		{"up", Ceil(7, 2), 4},
		{"even", Ceil(8, 2), 4},
		{"up from just above", Ceil(9, 8), 2},
		{"less than one", Ceil(1, 9), 1},
		{"by itself", Ceil(9, 9), 1},
		{"of 0", Ceil(0, 3), 0},
		{"by 0", Ceil(3, 0), end},
		{"0 by 0", Ceil(0, 0), end},
		{"by below 0, which counts as 0", Ceil(3, -1), end},
		{"by the least int", Ceil(3, math.MinInt), end},
		{"of below 0", Ceil(-3, 2), 0},
		{"below 0 by below 0", Ceil(-3, -2), end},
		{"least by -1", Ceil(math.MinInt, -1), end},
		{"2^62 by 1", Ceil(end, 1), end},
		{"2^62 by 2", Ceil(end, 2), end / 2},
		{"2^62 by 3", Ceil(end, 3), end/3 + 1},
		{"2^62 by 2^62", Ceil(end, end), 1},
		{"2^62-1 by 2^62", Ceil(end-1, end), 1},
		{"2^62 by 2^62-1", Ceil(end, end-1), 2},
		{"1 by 2^62", Ceil(1, end), 1},
		{"above 2^62 by 1", Ceil(math.MaxInt, 1), end},
		{"above 2^62 by above 2^62", Ceil(math.MaxInt, end+1), 1},
	})
	l := samples()
	for _, a := range l {
		for _, b := range l {
			if got, want := Ceil(a, b), ceilOf(a, b); got != want {
				t.Errorf("Ceil(%d, %d): %d, not %d", a, b, got, want)
			}
		}
	}
}

func TestClamp(t *testing.T) {
	check(t, []row{
		{"between", Clamp(5, 1, 9), 5},
		{"at lo", Clamp(1, 1, 9), 1},
		{"at hi", Clamp(9, 1, 9), 9},
		{"below", Clamp(0, 1, 9), 1},
		{"above", Clamp(10, 1, 9), 9},
		{"one only, below", Clamp(3, 4, 4), 4},
		{"one only", Clamp(4, 4, 4), 4},
		{"one only, above", Clamp(5, 4, 4), 4},
		{"negative bounds, below", Clamp(-10, -9, -7), -9},
		{"negative bounds, between", Clamp(-8, -9, -7), -8},
		{"negative bounds, above", Clamp(-5, -9, -7), -7},
		{"bounds of both signs", Clamp(-3, -9, 7), -3},
		{"wrong way round, between", Clamp(5, 9, 1), 9},
		{"wrong way round, below both", Clamp(0, 9, 1), 9},
		{"wrong way round, at hi", Clamp(1, 9, 1), 9},
		{"wrong way round, at lo", Clamp(9, 9, 1), 9},
		{"wrong way round, above both", Clamp(10, 9, 1), 9},
		{"wrong way round, negative", Clamp(-8, -7, -9), -7},
		{"beyond 2^62 is not cut", Clamp(end+5, 0, math.MaxInt), end + 5},
		{"below 0 is not cut", Clamp(math.MinInt, math.MinInt, 0), math.MinInt},
		{"least and greatest, wrong way round", Clamp(0, math.MaxInt, math.MinInt), math.MaxInt},
		{"least, up", Clamp(math.MinInt, -5, 5), -5},
		{"greatest, down", Clamp(math.MaxInt, -5, 5), 5},
	})
	l := edges()
	for _, x := range l {
		for _, lo := range l {
			for _, hi := range l {
				if got, want := Clamp(x, lo, hi), max(lo, min(x, hi)); got != want {
					t.Errorf("Clamp(%d, %d, %d): %d, not %d", x, lo, hi, got, want)
				}
			}
		}
	}
}

// TestNoOrder: P1.2, Add and Mul hang on no order.
func TestNoOrder(t *testing.T) {
	l := samples()
	for _, a := range l {
		for _, b := range l {
			if Add(a, b) != Add(b, a) {
				t.Errorf("Add of %d and %d", a, b)
			}
			if Mul(a, b) != Mul(b, a) {
				t.Errorf("Mul of %d and %d", a, b)
			}
		}
	}
	e := edges()
	for _, a := range e {
		for _, b := range e {
			for _, c := range e {
				x := Add(a, b, c)
				if x != Add(c, a, b) || x != Add(c, b, a) || x != Add(Add(a, b), c) || x != Add(a, Add(b, c)) {
					t.Errorf("Add of %d, %d and %d", a, b, c)
				}
			}
		}
	}
}

// TestNeverFalls: P1.2, neither Add nor Mul falls, if a number rises.
func TestNeverFalls(t *testing.T) {
	l := samples()
	slices.Sort(l)
	for _, b := range l {
		for i := range len(l) - 1 {
			less, more := l[i], l[i+1]
			if Add(less, b) > Add(more, b) || Add(b, less) > Add(b, more) || Add(b, less, 1) > Add(b, more, 1) {
				t.Errorf("Add of %d falls, from %d to %d", b, less, more)
			}
			if Mul(less, b) > Mul(more, b) || Mul(b, less) > Mul(b, more) {
				t.Errorf("Mul of %d falls, from %d to %d", b, less, more)
			}
		}
	}
}

// TestAddThenSub: P1.2, Add, and then Sub of one of two, tells the other one, unless the sum is 2^62.
func TestAddThenSub(t *testing.T) {
	told := 0
	l := samples()
	for _, a := range l {
		for _, b := range l {
			sum := Add(a, b)
			if sum == end {
				continue
			}
			told++
			if Sub(sum, a) != Fit(b) || Sub(sum, b) != Fit(a) {
				t.Errorf("%d and %d: %d and %d", a, b, Sub(sum, b), Sub(sum, a))
			}
		}
	}
	if told < len(l) {
		t.Errorf("only %d sums were below 2^62", told)
	}
}

// TestCeilThenMul: P1.2, Ceil of a by b, by Mul times b, is a at least, and less than a and b. (By 0 there is nothing to be told.)
func TestCeilThenMul(t *testing.T) {
	l := samples()
	for _, a := range l {
		for _, b := range l {
			if b < 1 {
				continue
			}
			back := big.NewInt(int64(Mul(Ceil(a, b), b)))
			beyond := new(big.Int).Add(wide(a), wide(b))
			if back.Cmp(wide(a)) < 0 || back.Cmp(beyond) >= 0 {
				t.Errorf("Ceil of %d by %d, times that: %d", a, b, back)
			}
		}
	}
}

// TestAllEnd: P1, every call ends, and none panics; all but Clamp tell numbers.
func TestAllEnd(t *testing.T) {
	l := samples()
	for _, a := range l {
		for _, b := range l {
			for i, x := range []int{Fit(a), Add(a), Add(a, b), Add(a, b, a, b), Sub(a, b), Mul(a, b), Ceil(a, b)} {
				if x < 0 || x > end {
					t.Errorf("call %d of %d and %d is no number: %d", i, a, b, x)
				}
			}
			Clamp(a, b, a)
			Clamp(a, a, b)
			Clamp(b, a, a)
		}
	}
}

// TestArgumentsAlone: P2, what a call answers hangs on its arguments alone.
func TestArgumentsAlone(t *testing.T) {
	l := samples()
	all := func() []int {
		var out []int
		for _, a := range l {
			for _, b := range l {
				out = append(out, Fit(a), Add(a, b), Sub(a, b), Mul(a, b), Ceil(a, b), Clamp(a, b, 5))
			}
		}
		return out
	}
	first := all()
	if !slices.Equal(first, all()) {
		t.Error("the same calls told something else")
	}
}

// TestListStays: a list that is handed in is not written into, and what lies behind its length isn't read.
func TestListStays(t *testing.T) {
	l := []int{3, -4, end + 5, 6, 7}
	was := slices.Clone(l)
	if got := Add(l[:2]...); got != 3 {
		t.Errorf("a part of a list: %d, not 3", got)
	}
	if got := Add(l...); got != end {
		t.Errorf("all of a list: %d, not 2^62", got)
	}
	if !slices.Equal(l, was) {
		t.Errorf("the list is %v, and was %v", l, was)
	}
}
