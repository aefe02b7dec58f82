package queue

import (
	"math"
	"math/big"
	"slices"
	"testing"

	"annona/api"
)

// end is how great a number may be, by the document's words; an item's ints may be greater.
const end = 1 << 62

// of is an item of a name, a key and a class, whose other ints are its own.
func of(id, key, class int) Item {
	return Item{ID: id, Key: key, Cost: 100 + (id&15)*3, Class: class, Until: 1000 + (id&15)*7}
}

// until is an item that waits until then.
func until(x Item, now int) Item {
	x.Until = now
	return x
}

// costs is an item of that cost.
func costs(x Item, cost int) Item {
	x.Cost = cost
	return x
}

// made is a new queue, that must be there.
func made(t *testing.T, room int) *Queue {
	t.Helper()
	q, err := New(room)
	if q == nil || err != api.OK {
		t.Fatalf("New(%d): %v, error %d", room, q, err)
	}
	return q
}

// with is a queue with room for so many, and these items.
func with(t *testing.T, room int, l ...Item) *Queue {
	t.Helper()
	q := made(t, room)
	for _, x := range l {
		puts(t, q, x, api.OK)
	}
	return q
}

// theSix are items of three keys, in no order of names, keys, classes, costs or times.
func theSix() []Item {
	return []Item{
		{ID: 8, Key: 5, Cost: 3, Class: 2, Until: 30},
		{ID: -2, Key: -7, Cost: 9, Class: 1, Until: 20},
		{ID: 4, Key: 5, Cost: 1, Class: 0, Until: 40},
		{ID: 11, Key: 5, Cost: 7, Class: 2, Until: 10},
		{ID: 0, Key: 65541, Cost: 2, Class: 2, Until: 25},
		{ID: 3, Key: 5, Cost: 4, Class: 0, Until: 20},
	}
}

// six is a queue with them, that has room for two more.
func six(t *testing.T) *Queue {
	t.Helper()
	return with(t, 8, theSix()...)
}

// but are items without those at these places.
func but(l []Item, places ...int) []Item {
	var out []Item
	for i, x := range l {
		if !slices.Contains(places, i) {
			out = append(out, x)
		}
	}
	return out
}

// has holds all items of a queue against what they must be; asked twice, since asking must change nothing.
func has(t *testing.T, name string, q *Queue, want ...Item) {
	t.Helper()
	for range 2 {
		if got := q.All(); !slices.Equal(got, want) {
			t.Errorf("%s: has %v, not %v", name, got, want)
		}
	}
}

// puts holds what Put tells.
func puts(t *testing.T, q *Queue, x Item, want api.Errno) {
	t.Helper()
	if got := q.Put(x); got != want {
		t.Errorf("Put(%+v): error %d, not %d", x, got, want)
	}
}

// first holds that a key's first one is this; asked twice, since asking must change nothing.
func first(t *testing.T, q *Queue, key int, want Item) {
	t.Helper()
	for range 2 {
		if got, ok := q.First(key); got != want || !ok {
			t.Errorf("First(%d): %+v, %t, not %+v", key, got, ok, want)
		}
	}
}

// noFirst holds that a key has no first one.
func noFirst(t *testing.T, q *Queue, key int) {
	t.Helper()
	if got, ok := q.First(key); got != (Item{}) || ok {
		t.Errorf("First(%d): %+v, %t, and there is none", key, got, ok)
	}
}

// takes holds that this is the item of its name, and goes.
func takes(t *testing.T, q *Queue, want Item) {
	t.Helper()
	if got, ok := q.Take(want.ID); got != want || !ok {
		t.Errorf("Take(%d): %+v, %t, not %+v", want.ID, got, ok, want)
	}
}

// takesNone holds that there is no item of a name.
func takesNone(t *testing.T, q *Queue, id int) {
	t.Helper()
	if got, ok := q.Take(id); got != (Item{}) || ok {
		t.Errorf("Take(%d): %+v, %t, and there is none", id, got, ok)
	}
}

// expires holds what Expire tells.
func expires(t *testing.T, q *Queue, now int, want ...Item) {
	t.Helper()
	if got := q.Expire(now); !slices.Equal(got, want) {
		t.Errorf("Expire(%d): %v, not %v", now, got, want)
	}
}

// lists holds what Of tells; asked twice, since asking must change nothing.
func lists(t *testing.T, q *Queue, key int, want ...Item) {
	t.Helper()
	for range 2 {
		if got := q.Of(key); !slices.Equal(got, want) {
			t.Errorf("Of(%d): %v, not %v", key, got, want)
		}
	}
}

// keys holds what Keys tells; asked twice, since asking must change nothing.
func keys(t *testing.T, q *Queue, want ...int) {
	t.Helper()
	for range 2 {
		if got := q.Keys(); !slices.Equal(got, want) {
			t.Errorf("Keys: %v, not %v", got, want)
		}
	}
}

// sums holds what Sum tells; asked twice, since asking must change nothing.
func sums(t *testing.T, q *Queue, key, want int) {
	t.Helper()
	for range 2 {
		if got := q.Sum(key); got != want {
			t.Errorf("Sum(%d): %d, not %d", key, got, want)
		}
	}
}

// edges are ints at and beside all bounds that the chapter names, and at the ends.
func edges() []int {
	return []int{
		math.MinInt, math.MinInt + 1, -end, -2, -1, 0, 1, 2, 3, 15, 16, 17, 65536,
		end - 1, end, end + 1, math.MaxInt - 1, math.MaxInt,
	}
}

// draw is a fixed rule's next, below n: the same ones each time.
func draw(x *uint64, n int) int {
	*x = *x*6364136223846793005 + 1442695040888963407
	return int(*x >> 33 % uint64(n))
}

// drawNear is mostly from 0 to most, now and then beside them, or one of the edges.
func drawNear(x *uint64, most int) int {
	switch draw(x, 24) {
	case 0:
		l := edges()
		return l[draw(x, len(l))]
	case 1:
		return -1 - draw(x, 2)
	}
	return draw(x, most+1)
}

// entry is an item, and the how-manieth that came it is.
type entry struct {
	item Item
	came int
}

// plain is a queue by the words alone: entries in no order, each told which it came as.
type plain struct {
	room    int
	entries []entry
	came    int
}

func (p *plain) put(x Item) api.Errno {
	if x.Cost <= 0 || x.Class <= -1 || x.Class >= 3 || x.Until <= -1 {
		return api.ErrArg
	}
	for _, e := range p.entries {
		if e.item.ID == x.ID {
			return api.ErrTwice
		}
	}
	if len(p.entries) == p.room {
		return api.ErrFull
	}
	p.came++
	// Ahead of the others, so that what is told in order isn't so by itself.
	p.entries = append([]entry{{x, p.came}}, p.entries...)
	return api.OK
}

// ahead tells whether a stands ahead of b among a key's items.
func ahead(a, b entry) bool {
	if a.item.Class != b.item.Class {
		return a.item.Class < b.item.Class
	}
	return a.came < b.came
}

// earlier tells whether a came ahead of b.
func earlier(a, b entry) bool {
	return a.came < b.came
}

// inOrder picks again and again the one that no other one is less than.
func inOrder(l []entry, less func(a, b entry) bool) []Item {
	l = slices.Clone(l)
	var out []Item
	for len(l) > 0 {
		least := 0
		for i := range l {
			if less(l[i], l[least]) {
				least = i
			}
		}
		out = append(out, l[least].item)
		l = slices.Concat(l[:least], l[least+1:])
	}
	return out
}

// those are the entries of which it is so.
func (p *plain) those(so func(Item) bool) []entry {
	var l []entry
	for _, e := range p.entries {
		if so(e.item) {
			l = append(l, e)
		}
	}
	return l
}

// goes takes out those of which it is so, and is them, as they came.
func (p *plain) goes(so func(Item) bool) []Item {
	gone := inOrder(p.those(so), earlier)
	p.entries = p.those(func(x Item) bool { return !so(x) })
	return gone
}

func (p *plain) take(id int) []Item {
	return p.goes(func(x Item) bool { return x.ID == id })
}

func (p *plain) expire(now int) []Item {
	return p.goes(func(x Item) bool { return !(x.Until > now) })
}

func (p *plain) of(key int) []Item {
	return inOrder(p.those(func(x Item) bool { return x.Key == key }), ahead)
}

func (p *plain) first(key int) []Item {
	l := p.of(key)
	return l[:min(len(l), 1)]
}

func (p *plain) keys() []int {
	m := map[int]bool{}
	for _, e := range p.entries {
		m[e.item.Key] = true
	}
	var l []int
	for key := range m {
		l = append(l, key)
	}
	slices.Sort(l)
	return l
}

// sum is added without bounds, and then cut.
func (p *plain) sum(key int) int {
	sum := new(big.Int)
	for _, x := range p.of(key) {
		sum.Add(sum, big.NewInt(int64(x.Cost)))
	}
	if sum.Cmp(big.NewInt(end)) > 0 {
		return end
	}
	return int(sum.Int64())
}

func (p *plain) all() []Item {
	return inOrder(p.entries, earlier)
}

// stands holds all that a queue tells of itself against the plain one.
func stands(t *testing.T, name string, q *Queue, p *plain) {
	t.Helper()
	if got, want := q.All(), p.all(); !slices.Equal(got, want) {
		t.Fatalf("%s: has %v, not %v", name, got, want)
	}
	if got, want := q.Keys(), p.keys(); !slices.Equal(got, want) {
		t.Fatalf("%s: keys %v, not %v", name, got, want)
	}
	for _, key := range append(p.keys(), -1, 0, 1, 99) {
		if got, want := q.Of(key), p.of(key); !slices.Equal(got, want) {
			t.Fatalf("%s: of %d %v, not %v", name, key, got, want)
		}
		if got, want := q.Sum(key), p.sum(key); got != want {
			t.Fatalf("%s: the sum of %d is %d, not %d", name, key, got, want)
		}
		x, ok := q.First(key)
		if got, want := told(x, ok), p.first(key); !slices.Equal(got, want) || !ok && x != (Item{}) {
			t.Fatalf("%s: the first one of %d is %+v, %t, not %v", name, key, x, ok, want)
		}
	}
}

// told is an item as a list; one without any, if there is none.
func told(x Item, ok bool) []Item {
	if !ok {
		return nil
	}
	return []Item{x}
}
