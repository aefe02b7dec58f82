package demand

import (
	"math"
	"math/big"
	"slices"
	"testing"
)

// end is how great a number may be, by the document's words.
const end = 1 << 62

// note is what was spent of a key.
type note struct{ key, spent int }

// with is a Demand of which these were noted, one behind the other.
func with(t *testing.T, l ...note) *Demand {
	t.Helper()
	d := New()
	if d == nil {
		t.Fatal("New: nil")
	}
	for _, x := range l {
		d.Note(x.key, x.spent)
	}
	return d
}

// theFour are notes that leave four keys estimates: -7 one of 9, 0 one of 1, 5 one of 12, 65541 one of 40.
func theFour() []note {
	return []note{{5, 24}, {65541, 40}, {-7, 4}, {5, 3}, {0, 1}, {-7, 9}}
}

// four is a Demand of which they were noted.
func four(t *testing.T) *Demand {
	t.Helper()
	return with(t, theFour()...)
}

// isFour holds that a Demand has what theFour left it.
func isFour(t *testing.T, name string, d *Demand) {
	t.Helper()
	has(t, name, d, note{-7, 9}, note{0, 1}, note{5, 12}, note{65541, 40})
}

// notes holds what Note tells, and what Of tells then.
func notes(t *testing.T, d *Demand, key, spent, want int) {
	t.Helper()
	if got := d.Note(key, spent); got != want {
		t.Errorf("Note(%d, %d): %d, not %d", key, spent, got, want)
	}
	estimates(t, d, key, want)
}

// estimates holds what Of tells; asked twice, since asking must change nothing.
func estimates(t *testing.T, d *Demand, key, want int) {
	t.Helper()
	for range 2 {
		if got := d.Of(key); got != want {
			t.Errorf("Of(%d): %d, not %d", key, got, want)
		}
	}
}

// wants holds what Want tells; asked twice, since asking must change nothing.
func wants(t *testing.T, d *Demand, key, queued, most, want int) {
	t.Helper()
	for range 2 {
		if got := d.Want(key, queued, most); got != want {
			t.Errorf("Want(%d, %d, %d): %d, not %d", key, queued, most, got, want)
		}
	}
}

// keys holds what Keys tells; asked twice, since asking must change nothing.
func keys(t *testing.T, name string, d *Demand, want ...int) {
	t.Helper()
	for range 2 {
		if got := d.Keys(); !slices.Equal(got, want) {
			t.Errorf("%s: keys %v, not %v", name, got, want)
		}
	}
}

// has holds that these keys have these estimates, and no other one has one; they are told by rising keys.
func has(t *testing.T, name string, d *Demand, want ...note) {
	t.Helper()
	var l []int
	for _, x := range want {
		l = append(l, x.key)
		if got := d.Of(x.key); got != x.spent {
			t.Errorf("%s: key %d has %d, not %d", name, x.key, got, x.spent)
		}
	}
	keys(t, name, d, l...)
	for _, key := range manyKeys() {
		if !slices.Contains(l, key) {
			estimates(t, d, key, 0)
		}
	}
}

// manyKeys are keys of all kinds: below 0, near it, of several policies and owners, and at both ends.
func manyKeys() []int {
	return []int{
		math.MinInt, math.MinInt + 1, -end, -65536, -10, -9, -7, -1, 0, 1, 2, 5, 9, 10, 11,
		65535, 65536, 65541, end - 1, end, end + 1, math.MaxInt - 1, math.MaxInt,
	}
}

// edges are ints at and beside all bounds of a number, halves of them, and the ends of the ints.
func edges() []int {
	return []int{
		math.MinInt, math.MinInt + 1, -end - 1, -end, -65537, -3, -2, -1, 0, 1, 2, 3, 4, 5, 65535, 65536,
		end/4 - 1, end / 4, end/2 - 1, end / 2, end/2 + 1, end - 3, end - 2, end - 1,
		end, end + 1, end + 2, math.MaxInt - 1, math.MaxInt,
	}
}

// draw is a fixed rule's next, below n: the same ones each time.
func draw(x *uint64, n int) int {
	*x = *x*6364136223846793005 + 1442695040888963407
	return int(*x >> 33 % uint64(n))
}

// drawSpent is a number of any length, now and then an edge, or nothing.
func drawSpent(x *uint64) int {
	switch draw(x, 8) {
	case 0:
		l := edges()
		return l[draw(x, len(l))]
	case 1, 2:
		return 0
	}
	wide := draw(x, 1<<31)<<31 | draw(x, 1<<31)
	return wide >> draw(x, 63)
}

// drawNote is a note of one of a few keys.
func drawNote(x *uint64) note {
	l := []int{-65536, -1, 0, 7, math.MaxInt}
	return note{l[draw(x, len(l))], drawSpent(x)}
}

// number is an int as a number, by the words of chapter 1.
func number(x int) *big.Int {
	switch {
	case x < 0:
		return big.NewInt(0)
	case x > end:
		return big.NewInt(end)
	}
	return big.NewInt(int64(x))
}

// greater is the greater one of two.
func greater(a, b *big.Int) *big.Int {
	if a.Cmp(b) > 0 {
		return a
	}
	return b
}

// plain is estimates by the words of the chapter alone: a list of rows that are never taken out.
type plain struct {
	keys      []int
	estimates []*big.Int
}

// at is the place of a key's row, which is made if there is none.
func (p *plain) at(key int) int {
	if i := slices.Index(p.keys, key); i >= 0 {
		return i
	}
	p.keys = append(p.keys, key)
	p.estimates = append(p.estimates, big.NewInt(0))
	return len(p.keys) - 1
}

func (p *plain) note(key, spent int) int {
	i := p.at(key)
	half := new(big.Int).Div(p.estimates[i], big.NewInt(2))
	p.estimates[i] = greater(number(spent), half)
	return p.of(key)
}

func (p *plain) of(key int) int {
	return int(p.estimates[p.at(key)].Int64())
}

// want adds without bounds, and then cuts.
func (p *plain) want(key, queued, most int) int {
	sum := new(big.Int).Add(number(p.of(key)), number(queued))
	for _, bound := range []*big.Int{number(end), number(most)} {
		if sum.Cmp(bound) > 0 {
			sum = bound
		}
	}
	return int(sum.Int64())
}

func (p *plain) above() []int {
	var l []int
	for i, key := range p.keys {
		if p.estimates[i].Sign() > 0 {
			l = append(l, key)
		}
	}
	slices.Sort(l)
	return l
}

// stands holds all that a Demand tells against the plain one.
func stands(t *testing.T, name string, d *Demand, p *plain) {
	t.Helper()
	keys(t, name, d, p.above()...)
	for _, key := range append(slices.Clone(p.keys), 3, -3) {
		estimates(t, d, key, p.of(key))
	}
}
