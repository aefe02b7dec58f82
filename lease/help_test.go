package lease

import (
	"math"
	"math/big"
	"slices"
	"testing"

	"annona/api"
)

// end is how great a number may be, by the document's words; a lease's ints may be greater.
const end = 1 << 62

// of is a lease of which nothing is spent.
func of(key, gen, amount, until int) Lease {
	return Lease{Key: key, Gen: gen, Amount: amount, Until: until}
}

// spent is a lease of which so much is spent.
func spent(l Lease, n int) Lease {
	l.Spent = n
	return l
}

// with is a wallet with these leases.
func with(t *testing.T, l ...Lease) *Wallet {
	t.Helper()
	w := New()
	for _, x := range l {
		puts(t, w, x, api.OK)
	}
	return w
}

// three is a wallet with leases of three keys, of which some is spent of the second one.
func three(t *testing.T) *Wallet {
	t.Helper()
	w := with(t, of(5, 7, 6, 30), of(-3, 4, 9, 20), of(65536, 2, 1, 0))
	spends(t, w, -3, 5, 19, 4, true)
	return w
}

// theThree are its leases, by keys.
func theThree() []Lease {
	return []Lease{spent(of(-3, 4, 9, 20), 5), of(5, 7, 6, 30), of(65536, 2, 1, 0)}
}

// has holds all leases of a wallet against what they must be; asked twice, since asking must change nothing.
func has(t *testing.T, name string, w *Wallet, want ...Lease) {
	t.Helper()
	for range 2 {
		if got := w.All(); !slices.Equal(got, want) {
			t.Errorf("%s: has %v, not %v", name, got, want)
		}
	}
}

// puts holds what Put tells.
func puts(t *testing.T, w *Wallet, l Lease, want api.Errno) {
	t.Helper()
	if got := w.Put(l); got != want {
		t.Errorf("Put(%+v): error %d, not %d", l, got, want)
	}
}

// spends holds what Spend tells.
func spends(t *testing.T, w *Wallet, key, cost, now, gen int, want bool) {
	t.Helper()
	if got, ok := w.Spend(key, cost, now); got != gen || ok != want {
		t.Errorf("Spend(%d, %d, %d): %d, %t, not %d, %t", key, cost, now, got, ok, gen, want)
	}
}

// left holds what Left tells; asked twice, since asking must change nothing.
func left(t *testing.T, w *Wallet, key, now, want int) {
	t.Helper()
	for range 2 {
		if got := w.Left(key, now); got != want {
			t.Errorf("Left(%d, %d): %d, not %d", key, now, got, want)
		}
	}
}

// closes holds what Close tells.
func closes(t *testing.T, w *Wallet, key, gen, want int) {
	t.Helper()
	if got := w.Close(key, gen); got != want {
		t.Errorf("Close(%d, %d): %d, not %d", key, gen, got, want)
	}
}

// drops holds what Drop tells.
func drops(t *testing.T, w *Wallet, gen, want int) {
	t.Helper()
	if got := w.Drop(gen); got != want {
		t.Errorf("Drop(%d): %d, not %d", gen, got, want)
	}
}

// edges are ints at and beside all bounds that the chapter names, and at the ends.
func edges() []int {
	return []int{
		math.MinInt, math.MinInt + 1, -end, -2, -1, 0, 1, 2, 3, 65536,
		end - 1, end, end + 1, math.MaxInt - 1, math.MaxInt,
	}
}

// draw is a fixed rule's next, below n: the same ones each time.
func draw(x *uint64, n int) int {
	*x = *x*6364136223846793005 + 1442695040888963407
	return int(*x >> 33 % uint64(n))
}

// drawNear is mostly from 0 to most, now and then beside them, or one of the edges.
func drawNear(x *uint64, most int) int {
	switch draw(x, 16) {
	case 0:
		l := edges()
		return l[draw(x, len(l))]
	case 1:
		return -1 - draw(x, 2)
	}
	return draw(x, most+1)
}

// entry is a plain lease: each spending of it stands by itself.
type entry struct {
	key, gen, amount, until int
	spendings               []int
}

// plain is a wallet by the words alone: leases as they were put.
type plain struct {
	entries []entry
}

// sum is what was spent of it, all together, without bounds.
func (e entry) sum() *big.Int {
	sum := new(big.Int)
	for _, x := range e.spendings {
		sum.Add(sum, big.NewInt(int64(x)))
	}
	return sum
}

// at is where a key's lease stands; -1, if there is none.
func (p *plain) at(key int) int {
	return slices.IndexFunc(p.entries, func(e entry) bool { return e.key == key })
}

func (p *plain) put(l Lease) api.Errno {
	switch {
	case l.Gen <= 0, l.Amount <= 0, l.Spent > 0, l.Spent < 0, l.Until <= -1:
		return api.ErrArg
	case p.at(l.Key) >= 0:
		return api.ErrTwice
	}
	p.entries = append(p.entries, entry{key: l.Key, gen: l.Gen, amount: l.Amount, until: l.Until})
	return api.OK
}

func (p *plain) left(key, now int) int {
	i := p.at(key)
	if i < 0 || !(now < p.entries[i].until) {
		return 0
	}
	e := p.entries[i]
	return int(new(big.Int).Sub(big.NewInt(int64(e.amount)), e.sum()).Int64())
}

func (p *plain) spend(key, cost, now int) (int, bool) {
	if !(1 <= cost && cost <= p.left(key, now)) {
		return 0, false
	}
	e := &p.entries[p.at(key)]
	e.spendings = append(e.spendings, cost)
	return e.gen, true
}

func (p *plain) close(key, gen int) int {
	i := p.at(key)
	if i < 0 {
		return -1
	}
	e := p.entries[i]
	p.entries = slices.Concat(p.entries[:i], p.entries[i+1:])
	if e.gen == gen {
		return int(e.sum().Int64())
	}
	return -1
}

func (p *plain) drop(gen int) int {
	var stay []entry
	gone := 0
	for _, e := range p.entries {
		if e.gen < gen {
			gone++
			continue
		}
		stay = append(stay, e)
	}
	p.entries = stay
	return gone
}

// all picks the least key that is not told yet, till none is.
func (p *plain) all() []Lease {
	var l []Lease
	for len(l) < len(p.entries) {
		least := entry{}
		found := false
		for _, e := range p.entries {
			told := slices.ContainsFunc(l, func(x Lease) bool { return x.Key == e.key })
			if !told && (!found || e.key < least.key) {
				least, found = e, true
			}
		}
		l = append(l, spent(of(least.key, least.gen, least.amount, least.until), int(least.sum().Int64())))
	}
	return l
}

// The acts.
const (
	toPut = iota
	toSpend
	toLook
	toClose
	toDrop
	howMany
)

// act is something that is done with a wallet; what is not of its kind is not looked at.
type act struct {
	how   int
	lease Lease
	cost  int
	now   int
}

// onWallet does it: what is told, and whether a bool was true.
func (a act) onWallet(w *Wallet) (int, bool) {
	switch a.how {
	case toPut:
		return int(w.Put(a.lease)), false
	case toSpend:
		return w.Spend(a.lease.Key, a.cost, a.now)
	case toLook:
		return w.Left(a.lease.Key, a.now), false
	case toClose:
		return w.Close(a.lease.Key, a.lease.Gen), false
	}
	return w.Drop(a.lease.Gen), false
}

// onPlain does it with the plain one.
func (a act) onPlain(p *plain) (int, bool) {
	switch a.how {
	case toPut:
		return int(p.put(a.lease)), false
	case toSpend:
		return p.spend(a.lease.Key, a.cost, a.now)
	case toLook:
		return p.left(a.lease.Key, a.now), false
	case toClose:
		return p.close(a.lease.Key, a.lease.Gen), false
	}
	return p.drop(a.lease.Gen), false
}

// drawn is any act, of one of a few keys mostly.
func drawn(x *uint64) act {
	a := act{
		how:   []int{toPut, toPut, toPut, toSpend, toSpend, toSpend, toSpend, toLook, toClose, toClose, toDrop}[draw(x, 11)],
		lease: of(drawNear(x, 3), drawNear(x, 2), drawNear(x, 12), drawNear(x, 20)),
		cost:  drawNear(x, 6),
		now:   drawNear(x, 20),
	}
	if draw(x, 12) == 0 {
		a.lease.Spent = drawNear(x, 3)
	}
	if a.how == toDrop && draw(x, 4) > 0 {
		a.lease.Gen = draw(x, 2)
	}
	return a
}
