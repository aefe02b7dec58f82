package lease

import (
	"math/big"
	"slices"
	"testing"

	"annona/api"
)

// tried does an act with a wallet and with the plain one, and holds what they tell against each other.
func tried(t *testing.T, w *Wallet, p *plain, a act) int {
	t.Helper()
	got, ok := a.onWallet(w)
	want, must := a.onPlain(p)
	if got != want || ok != must {
		t.Fatalf("%+v: %d, %t, not %d, %t", a, got, ok, want, must)
	}
	if l, all := w.All(), p.all(); !slices.Equal(l, all) {
		t.Fatalf("behind %+v: %v, not %v", a, l, all)
	}
	return got
}

// S1: many acts in any order, beside a plain wallet.
func TestBesideAPlainOne(t *testing.T) {
	x := uint64(11)
	var told [howMany][3]int
	for range 400 {
		w, p := New(), &plain{}
		for range 150 {
			a := drawn(&x)
			got := tried(t, w, p, a)
			told[a.how][min(max(got, -1), 1)+1]++
			now := drawNear(&x, 20)
			for key := -1; key <= 4; key++ {
				tried(t, w, p, act{how: toLook, lease: of(key, 0, 0, 0), now: now})
			}
		}
	}
	// Each act often told something, and often nothing.
	for how, l := range told {
		if l[1] < 200 || l[2] < 200 || how == toClose && l[0] < 200 {
			t.Errorf("of act %d: %v", how, l)
		}
	}
}

// shortOnes are acts of two keys and two generations, few of each kind.
func shortOnes() []act {
	l := []act{
		{how: toPut, lease: of(0, 1, 2, 2)},
		{how: toPut, lease: of(0, 2, 1, 1)},
		{how: toPut, lease: of(-1, 2, 2, 1)},
		{how: toPut, lease: of(-1, 1, 1, 0)},
		{how: toPut, lease: spent(of(0, 1, 2, 2), 1)},
	}
	for _, key := range []int{0, -1} {
		for _, now := range []int{0, 1} {
			l = append(l, act{how: toSpend, lease: of(key, 0, 0, 0), cost: 1, now: now})
		}
		l = append(l, act{how: toClose, lease: of(key, 1, 0, 0)}, act{how: toClose, lease: of(key, 2, 0, 0)})
	}
	return append(l, act{how: toSpend, lease: of(0, 0, 0, 0), cost: 2, now: 1}, act{how: toDrop, lease: of(0, 2, 0, 0)})
}

// S1: each row of four acts out of these.
func TestAllShortOnes(t *testing.T) {
	l := shortOnes()
	row := make([]int, 4)
	for range len(l) * len(l) * len(l) * len(l) {
		w, p := New(), &plain{}
		for _, k := range row {
			tried(t, w, p, l[k])
		}
		for i := range row {
			row[i] = (row[i] + 1) % len(l)
			if row[i] > 0 {
				break
			}
		}
	}
}

// kept is what P11.2's test keeps of a lease that was put: what was told of it, and nothing that is reckoned.
type kept struct {
	lease Lease
	spent *big.Int
}

// spending holds one that is told true, or isn't, against P11.2.
func (k *kept) spending(t *testing.T, cost, now, gen int, ok bool) {
	t.Helper()
	if !ok {
		if gen != 0 {
			t.Fatalf("of %+v, false with %d", k.lease, gen)
		}
		return
	}
	k.spent.Add(k.spent, big.NewInt(int64(cost)))
	switch {
	case cost < 1, now >= k.lease.Until, gen != k.lease.Gen:
		t.Fatalf("of %+v %d are spent at %d, of generation %d", k.lease, cost, now, gen)
	case k.spent.Cmp(big.NewInt(int64(k.lease.Amount))) > 0:
		t.Fatalf("of %+v %v are spent in all", k.lease, k.spent)
	}
}

// closing holds what Close tells against P11.2.
func (k *kept) closing(t *testing.T, gen, told int) {
	t.Helper()
	if gen == k.lease.Gen && big.NewInt(int64(told)).Cmp(k.spent) != 0 || gen != k.lease.Gen && told != -1 {
		t.Fatalf("of %+v, closed of generation %d, %d are told, and %v were spent", k.lease, gen, told, k.spent)
	}
}

// near is an int at or beside one of these, or any.
func near(x *uint64, l ...int) int {
	if draw(x, 6) == 0 {
		return drawNear(x, 20)
	}
	return l[draw(x, len(l))] + draw(x, 3) - 1
}

// life is a lease's, of drawn spendings, from its Put to its Close; how many of them are told true.
func life(t *testing.T, x *uint64, w *Wallet, key int) int {
	t.Helper()
	l := of(key, drawNear(x, 9), drawNear(x, 40), drawNear(x, 20))
	if w.Put(l) != api.OK {
		return 0
	}
	k := kept{l, new(big.Int)}
	n := 0
	for range draw(x, 20) {
		cost, now := near(x, 1, 3, w.Left(key, l.Until-1)), near(x, 0, l.Until)
		gen, ok := w.Spend(key, cost, now)
		k.spending(t, cost, now, gen, ok)
		if ok {
			n++
		}
	}
	gen := near(x, l.Gen)
	k.closing(t, gen, w.Close(key, gen))
	if gen, ok := w.Spend(key, 1, -1); ok {
		t.Fatalf("of generation %d something is spent behind Close", gen)
	}
	return n
}

// P11.2 by what it says: over drawn leases, costs and readings, of any size, other keys' leases beside them.
func TestNeverMore(t *testing.T) {
	x := uint64(12)
	n := 0
	for range 3000 {
		w := with(t, of(100, 3, 50, 90), of(-100, 4, 50, 90))
		spends(t, w, 100, 9, 80, 3, true)
		for range 8 {
			n += life(t, &x, w, drawNear(&x, 3))
		}
		has(t, "the others", w, of(-100, 4, 50, 90), spent(of(100, 3, 50, 90), 9))
	}
	if n < 20000 {
		t.Errorf("only %d were spent", n)
	}
}

// P11.2: several leases at once, spent beside one another, closed at last.
func TestNeverMoreBeside(t *testing.T) {
	x := uint64(13)
	for range 2000 {
		w := New()
		m := map[int]*kept{}
		for key := range 5 {
			l := of(key, 1+draw(&x, 4), 1+draw(&x, 15), draw(&x, 20))
			if w.Put(l) == api.OK {
				m[key] = &kept{l, new(big.Int)}
			}
		}
		for range 40 {
			key, cost, now := draw(&x, 5), drawNear(&x, 5), drawNear(&x, 20)
			gen, ok := w.Spend(key, cost, now)
			m[key].spending(t, cost, now, gen, ok)
		}
		for key := range 5 {
			gen := near(&x, m[key].lease.Gen)
			m[key].closing(t, gen, w.Close(key, gen))
		}
		has(t, "all closed", w)
	}
}

// everyCall is what all calls tell, in drawn orders, of one wallet and of a nil one.
func everyCall() []int {
	var out []int
	x := uint64(14)
	for _, w := range []*Wallet{New(), New(), nil} {
		for range 3000 {
			n, ok := drawn(&x).onWallet(w)
			out = append(out, n, len(w.All()))
			if ok {
				out = append(out, 1)
			}
			for _, l := range w.All() {
				out = append(out, l.Key, l.Gen, l.Amount, l.Spent, l.Until)
			}
		}
	}
	return out
}

// P1, P2: every call ends, and what it tells hangs on its arguments and the calls ahead of it alone.
func TestArgumentsAlone(t *testing.T) {
	first := everyCall()
	for range 5 {
		if !slices.Equal(everyCall(), first) {
			t.Fatal("the same calls told something else")
		}
	}
}
