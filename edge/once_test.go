package edge

import (
	"math/big"
	"slices"
	"testing"

	"annona/api"
	"annona/lease"
)

// purse is what P14.2's test keeps of a lease: how much was granted by it, told by the answers alone.
type purse struct {
	lease   lease.Lease
	granted *big.Int
}

// watch is what P14.2's test keeps: what was asked, how often each one was answered, and the leases that are there.
type watch struct {
	asked    map[int]api.Request
	answered map[int]int
	purses   map[int]*purse
	// How many were granted, and how many waited behind each act, so that the drawn acts are known to reach both.
	grants, waits int
}

// newWatch is one of an edge of which nothing is asked.
func newWatch() *watch {
	return &watch{asked: map[int]api.Request{}, answered: map[int]int{}, purses: map[int]*purse{}}
}

// does does an act, and holds what it tells against P14.2.
func (w *watch) does(t *testing.T, e *Edge, a act) {
	t.Helper()
	if a.how == toAsk {
		w.asked[a.request.ID] = a.request
	}
	had := e.Leases()
	l, _ := a.onEdge(e)
	w.keep(had, e.Leases())
	for _, x := range l {
		w.answer(t, a, x)
	}
	w.once(t, e, a)
}

// keep keeps the leases that are new, and those that stay.
func (w *watch) keep(had, has []lease.Lease) {
	purses := map[int]*purse{}
	for _, l := range has {
		// No one act ends a key's lease and puts another one.
		if slices.ContainsFunc(had, func(x lease.Lease) bool { return x.Key == l.Key }) {
			purses[l.Key] = w.purses[l.Key]
			continue
		}
		l.Spent = 0
		purses[l.Key] = &purse{l, new(big.Int)}
	}
	w.purses = purses
}

// answer holds one answer against P14.2: who was asked is answered for the first time, and what is granted is granted by a lease.
func (w *watch) answer(t *testing.T, a act, x api.Answer) {
	t.Helper()
	r, was := w.asked[x.ID]
	w.answered[x.ID]++
	if !was || w.answered[x.ID] > 1 {
		t.Fatalf("%+v: %+v, which was not asked, or was answered", a, x)
	}
	if x.Reason != api.Granted || a.how == toRefuse {
		return
	}
	w.grants++
	p := w.purses[r.Key]
	if p == nil || p.lease.Gen != x.Gen || a.now >= p.lease.Until {
		t.Fatalf("%+v: %+v, by the lease %v", a, x, p)
	}
	p.granted.Add(p.granted, big.NewInt(int64(r.Cost)))
	if p.granted.Cmp(big.NewInt(int64(p.lease.Amount))) > 0 {
		t.Fatalf("%+v: by the lease %v more is granted than its amount", a, p)
	}
}

// once holds that whoever is asked was answered once, or waits, once, as it was asked, and that nobody else waits.
func (w *watch) once(t *testing.T, e *Edge, a act) {
	t.Helper()
	wait := map[int]int{}
	for _, x := range e.Waiting() {
		wait[x.ID]++
		if r := w.asked[x.ID]; item(r, x.Until) != x {
			t.Fatalf("behind %+v: %+v waits, asked as %+v", a, x, r)
		}
	}
	for id := range w.asked {
		if w.answered[id]+wait[id] != 1 {
			t.Fatalf("behind %+v: %d was answered %d times, and waits %d times", a, id, w.answered[id], wait[id])
		}
	}
	for id := range wait {
		if _, was := w.asked[id]; !was {
			t.Fatalf("behind %+v: %d waits, and was not asked", a, id)
		}
	}
	w.waits += len(wait)
	for key, p := range w.purses {
		if n := spentOf(e, key); p.granted.Cmp(big.NewInt(int64(n))) != 0 {
			t.Fatalf("behind %+v: of key %d %d are spent, and %v were granted", a, key, n, p.granted)
		}
	}
}

// spentOf is how much of a key's lease is spent.
func spentOf(e *Edge, key int) int {
	n := 0
	for _, l := range e.Leases() {
		if l.Key == key {
			n += l.Spent
		}
	}
	return n
}

// P14.2 by what it says: over drawn acts, each request with a name of its own.
func TestOnce(t *testing.T) {
	x := uint64(50)
	grants, waits := 0, 0
	for _, c := range confs() {
		for range 10 {
			e, w := made(t, c), newWatch()
			for id := range 100 {
				a := drawn(&x)
				// In no order of theirs, and of both signs.
				a.request.ID = id*37%100 - 50
				w.does(t, e, a)
			}
			w.does(t, e, act{how: toCrash})
			waiting(t, e)
			grants += w.grants
			waits += w.waits
		}
	}
	if grants < 2000 || waits < 20000 {
		t.Errorf("only %d were granted, and %d waited", grants, waits)
	}
}

// P14.2: what Close tells is what was granted by that lease, at once and later.
func TestCloseTellsWhatWasGranted(t *testing.T) {
	x := uint64(51)
	n := 0
	for range 2000 {
		e, w := made(t, room(theConf(), 16)), newWatch()
		l := of(5, 1+draw(&x, 3), 1+draw(&x, 30), 1+draw(&x, 20))
		at := draw(&x, 12)
		for id := range 24 {
			a := act{how: toAsk, request: api.Request{ID: id, Key: 5 + draw(&x, 5)/4, Cost: 1 + draw(&x, 5), Class: draw(&x, 3), Wait: draw(&x, 20)}, now: draw(&x, 20)}
			if id == at {
				w.does(t, e, act{how: toGrant, lease: l, now: draw(&x, 20)})
			}
			w.does(t, e, a)
		}
		granted := int(w.purses[5].granted.Int64())
		closes(t, e, 5, l.Gen, granted)
		n += granted
	}
	if n < 10000 {
		t.Errorf("only %d were granted", n)
	}
}
