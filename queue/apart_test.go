package queue

import (
	"math"
	"slices"
	"testing"

	"annona/api"
)

// spoilt writes into a list, and into the room behind it, and puts more behind it.
func spoilt[T any](l []T, x T) {
	_ = append(l, x)
	l = l[:cap(l)]
	for i := range l {
		l[i] = x
	}
	_ = append(l, x)
}

// wrong is an item that no queue has.
func wrong() Item {
	return Item{-77, -77, -77, -77, -77}
}

// aQueue is some items, in a queue with room for so many.
type aQueue struct {
	room int
	l    []Item
}

// queues are such of all kinds: of one key, of classes that fall and that rise, full, and with room.
func queues() []aQueue {
	falling := []Item{of(1, 5, 2), of(2, 5, 1), of(3, 5, 0)}
	rising := []Item{of(1, 5, 0), of(2, 5, 1), of(3, 5, 2), of(4, 5, 2)}
	var many []Item
	for i := range 16 {
		many = append(many, until(of(i, 5+i%3, (i*2)%3), 10+i%4*10))
	}
	return []aQueue{
		{3, falling}, {4, falling}, {16, falling},
		{4, rising}, {5, rising}, {16, rising},
		{6, theSix()}, {7, theSix()}, {16, theSix()},
		{16, many}, {16, many[:8]}, {16, many[:9]}, {16, many[:15]},
		{1, falling[:1]}, {2, falling[:1]},
	}
}

// tells are the calls that tell lists of items, and leave the queue as it is.
func tells() map[string]func(*Queue) []Item {
	return map[string]func(*Queue) []Item{
		"All":        func(q *Queue) []Item { return q.All() },
		"Of 5":       func(q *Queue) []Item { return q.Of(5) },
		"Of -7":      func(q *Queue) []Item { return q.Of(-7) },
		"Of no key":  func(q *Queue) []Item { return q.Of(99) },
		"Expire -1":  func(q *Queue) []Item { return q.Expire(-1) },
		"Expire min": func(q *Queue) []Item { return q.Expire(math.MinInt) },
	}
}

// Rule 4: writing into what is told, or appending to it, changes nothing of the queue, nor of what else was told.
func TestToldIsNew(t *testing.T) {
	for _, k := range queues() {
		for name, tell := range tells() {
			q, p := full(t, k.room, k.l...)
			a, b := tell(q), tell(q)
			was := slices.Clone(b)
			spoilt(a, wrong())
			// Ahead of asking the queue, which might write the same once more.
			if !slices.Equal(b, was) {
				t.Errorf("%s: another list is %v now", name, b)
			}
			stands(t, name, q, p)
			fill(t, q, p, k.room-len(k.l))
			spoilt(a, wrong())
			spoilt(b, wrong())
			stands(t, name, q, p)
		}
	}
}

// Rule 4: of what Keys tells likewise.
func TestKeysAreNew(t *testing.T) {
	for _, k := range queues() {
		q, p := full(t, k.room, k.l...)
		a, b := q.Keys(), q.Keys()
		spoilt(a, -77)
		if !slices.Equal(b, p.keys()) {
			t.Errorf("other keys are %v now", b)
		}
		stands(t, "keys", q, p)
		fill(t, q, p, k.room-len(k.l))
		spoilt(a, -77)
		spoilt(b, -77)
		stands(t, "keys", q, p)
	}
}

// Rule 4: what Expire tells is the queue's no more, whether some go, or all.
func TestExpiredAreNew(t *testing.T) {
	for _, k := range queues() {
		for _, now := range []int{9, 10, 20, 25, 30, 40, 1007, 1014, 1021, math.MaxInt} {
			q, p := full(t, k.room, k.l...)
			gone := q.Expire(now)
			want := p.expire(now)
			if !slices.Equal(gone, want) {
				t.Fatalf("Expire(%d): %v, not %v", now, gone, want)
			}
			all := q.All()
			spoilt(gone, wrong())
			if !slices.Equal(all, p.all()) {
				t.Errorf("another list is %v now", all)
			}
			stands(t, "expired", q, p)
			fill(t, q, p, k.room-len(all))
			spoilt(gone, wrong())
			stands(t, "expired, and filled", q, p)
		}
	}
}

// laterCalls are such as turn a queue, or ask it.
func laterCalls() map[string]func(*Queue) {
	return map[string]func(*Queue){
		"put":        func(q *Queue) { q.Put(of(500, 5, 0)) },
		"put many":   func(q *Queue) { puttingMany(q) },
		"take first": func(q *Queue) { takeAt(q, 0) },
		"take amid":  func(q *Queue) { takeAt(q, 1); takeAt(q, 1) },
		"take last":  func(q *Queue) { takeAt(q, len(q.All())-1) },
		"expire":     func(q *Queue) { q.Expire(20) },
		"expire all": func(q *Queue) { q.Expire(math.MaxInt) },
		"turned and asked": func(q *Queue) {
			for _, tell := range tells() {
				tell(q)
			}
			takeAt(q, 0)
			q.Put(of(500, 9, 0))
			for _, tell := range tells() {
				tell(q)
			}
			q.Keys()
		},
		"turned": func(q *Queue) {
			takeAt(q, 0)
			q.Put(of(500, 5, 0))
			q.Expire(25)
			puttingMany(q)
			takeAt(q, 2)
			q.Put(of(501, -7, 1))
			q.Expire(math.MaxInt)
			puttingMany(q)
		},
	}
}

// puttingMany puts till there is no room.
func puttingMany(q *Queue) {
	for i := range 16 {
		q.Put(of(600+i, 5+i%2, i%3))
	}
}

// takeAt takes the item at a place, if there is one.
func takeAt(q *Queue, i int) {
	if l := q.All(); i >= 0 && i < len(l) {
		q.Take(l[i].ID)
	}
}

// Rule 4: a later call on the queue changes nothing of what was told.
func TestToldStays(t *testing.T) {
	for _, k := range queues() {
		for name, later := range laterCalls() {
			for now := 0; now <= 40; now += 10 {
				q, p := full(t, k.room, k.l...)
				lists := [][]Item{q.Expire(now), q.All(), q.Of(5), q.Of(-7), q.Of(6)}
				was := [][]Item{p.expire(now), p.all(), p.of(5), p.of(-7), p.of(6)}
				ks, wereKeys := q.Keys(), p.keys()
				later(q)
				for i, l := range lists {
					if !slices.Equal(l, was[i]) {
						t.Errorf("%s: list %d is %v now, and was %v", name, i, l, was[i])
					}
				}
				if !slices.Equal(ks, wereKeys) {
					t.Errorf("%s: the keys are %v now, and were %v", name, ks, wereKeys)
				}
			}
		}
	}
}

// Rule 4: what a first expiry told stays, whatever a later one tells.
func TestExpiredStay(t *testing.T) {
	l := theSix()
	q := six(t)
	a := q.Expire(10)
	b := q.Expire(20)
	puts(t, q, l[3], api.OK)
	c := q.Expire(25)
	d := q.Expire(math.MaxInt)
	for i, x := range [][2][]Item{
		{a, {l[3]}},
		{b, {l[1], l[5]}},
		{c, {l[4], l[3]}},
		{d, {l[0], l[2]}},
	} {
		if !slices.Equal(x[0], x[1]) {
			t.Errorf("expiry %d: %v, not %v", i, x[0], x[1])
		}
	}
}

// Rule 4: what is handed in, and an item that is told, are values: they turn with nothing.
func TestItemsAreValues(t *testing.T) {
	x := of(7, 5, 1)
	q := with(t, 2, x)
	x.Cost, x.Key, x.ID = 9, 9, 9
	has(t, "put", q, of(7, 5, 1))
	y, _ := q.First(5)
	y.Cost, y.Key, y.ID = 9, 9, 9
	has(t, "looked at", q, of(7, 5, 1))
}
