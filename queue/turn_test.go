package queue

import (
	"slices"
	"testing"

	"annona/api"
)

// The acts.
const (
	toPut = iota
	toTake
	toTakeFirst
	toExpire
	howMany
)

// act is something that is done with a queue; what is not of its kind is not looked at.
type act struct {
	how  int
	item Item // of a take its name, of one of the first one its key
	now  int
}

// onQueue does it: an error, and what goes.
func (a act) onQueue(q *Queue) (api.Errno, []Item) {
	switch a.how {
	case toPut:
		return q.Put(a.item), nil
	case toTake:
		return api.OK, told(q.Take(a.item.ID))
	case toTakeFirst:
		x, ok := q.First(a.item.Key)
		if !ok {
			return api.OK, nil
		}
		return api.OK, told(q.Take(x.ID))
	}
	return api.OK, q.Expire(a.now)
}

// onPlain does it with the plain one.
func (a act) onPlain(p *plain) (api.Errno, []Item) {
	switch a.how {
	case toPut:
		return p.put(a.item), nil
	case toTake:
		return api.OK, p.take(a.item.ID)
	case toTakeFirst:
		l := p.first(a.item.Key)
		if len(l) > 0 {
			p.take(l[0].ID)
		}
		return api.OK, l
	}
	return api.OK, p.expire(a.now)
}

// tried does an act with a queue and with the plain one, and holds what they tell, and have then, against each other.
func tried(t *testing.T, q *Queue, p *plain, a act) (api.Errno, []Item) {
	t.Helper()
	err, l := a.onQueue(q)
	must, want := a.onPlain(p)
	if err != must || !slices.Equal(l, want) {
		t.Fatalf("%+v: error %d, %v, not %d, %v", a, err, l, must, want)
	}
	stands(t, "behind an act", q, p)
	return err, l
}

// drawn is any act, of a few names, keys and times mostly.
func drawn(x *uint64) act {
	a := act{
		how:  []int{toPut, toPut, toPut, toPut, toPut, toTake, toTake, toTakeFirst, toExpire}[draw(x, 9)],
		item: Item{drawNear(x, 9), drawNear(x, 2), drawNear(x, 12), drawNear(x, 2), drawNear(x, 40)},
		now:  drawNear(x, 20) - 5,
	}
	return a
}

// Q1: many acts in any order, beside a plain queue.
func TestBesideAPlainOne(t *testing.T) {
	x := uint64(36)
	errs := map[api.Errno]int{}
	var gone [howMany][3]int
	for round := range 500 {
		room := round % 17
		q, p := made(t, room), &plain{room: room}
		for range 80 {
			a := drawn(&x)
			err, l := tried(t, q, p, a)
			if a.how == toPut {
				errs[err]++
			}
			gone[a.how][min(len(l), 2)]++
		}
	}
	for _, err := range []api.Errno{api.OK, api.ErrArg, api.ErrTwice, api.ErrFull} {
		if errs[err] < 500 {
			t.Errorf("of Put: %v", errs)
		}
	}
	// Each act often told something, and often nothing.
	for how, l := range gone {
		if how != toPut && (l[0] < 200 || l[1] < 200) || how == toExpire && l[2] < 200 {
			t.Errorf("of act %d: %v", how, gone)
		}
	}
}

// shortOnes are acts of a few names and two keys, few of each kind.
func shortOnes() []act {
	return []act{
		{how: toPut, item: Item{1, 0, 2, 1, 2}},
		{how: toPut, item: Item{2, 0, 3, 0, 1}},
		{how: toPut, item: Item{3, 0, 1, 1, 1}},
		{how: toPut, item: Item{4, -1, 1, 2, 1}},
		{how: toPut, item: Item{1, -1, 5, 0, 0}},
		{how: toPut, item: Item{1, 0, 0, 0, 0}},
		{how: toTake, item: Item{ID: 1}},
		{how: toTake, item: Item{ID: 3}},
		{how: toTakeFirst, item: Item{Key: 0}},
		{how: toTakeFirst, item: Item{Key: -1}},
		{how: toExpire, now: 1},
		{how: toExpire, now: 0},
	}
}

// Q1: each row of four acts out of these, with little room.
func TestAllShortOnes(t *testing.T) {
	l := shortOnes()
	row := make([]int, 4)
	for range len(l) * len(l) * len(l) * len(l) {
		for room := 1; room <= 4; room++ {
			q, p := made(t, room), &plain{room: room}
			for _, k := range row {
				tried(t, q, p, l[k])
			}
		}
		for i := range row {
			row[i] = (row[i] + 1) % len(l)
			if row[i] > 0 {
				break
			}
		}
	}
}

// Q1: All tells all items, as they came, behind puts, takes and expiries in any order: what was put, less what went.
func TestAll(t *testing.T) {
	x := uint64(37)
	for range 400 {
		q := made(t, 16)
		var want []Item
		for range 60 {
			a := drawn(&x)
			err, l := a.onQueue(q)
			if a.how == toPut && err == api.OK {
				want = append(want, a.item)
			}
			want = slices.DeleteFunc(want, func(x Item) bool { return slices.Contains(l, x) })
			has(t, "behind an act", q, want...)
		}
	}
}

// inTurn holds that what was taken of a key is its items, each once, by classes, and within a class as they came.
func inTurn(t *testing.T, came, taken []Item) {
	t.Helper()
	if len(taken) != len(came) {
		t.Fatalf("%d came, and %d were taken", len(came), len(taken))
	}
	last := -1
	for i, x := range taken {
		at := slices.Index(came, x)
		if at < 0 || slices.Index(taken, x) != i {
			t.Fatalf("%+v did not come, or was taken twice", x)
		}
		if i > 0 && x.Class < taken[i-1].Class {
			t.Fatalf("%+v behind %+v", x, taken[i-1])
		}
		if i > 0 && x.Class == taken[i-1].Class && at < last {
			t.Fatalf("%+v came ahead of %+v", x, taken[i-1])
		}
		last = at
	}
}

// ofKey are those items of a key, or, if not is true, those of all others.
func ofKey(l []Item, key int, not bool) []Item {
	var out []Item
	for _, x := range l {
		if (x.Key == key) != not {
			out = append(out, x)
		}
	}
	return out
}

// drained takes the first one of a key, till it has none, and holds that other keys' items stay.
func drained(t *testing.T, q *Queue, key int) []Item {
	t.Helper()
	others := ofKey(q.All(), key, true)
	var taken []Item
	for range 17 {
		x, ok := q.First(key)
		if !ok {
			has(t, "the other keys' ones", q, others...)
			return taken
		}
		if x.Key != key {
			t.Fatalf("of %d the first one is %+v", key, x)
		}
		takes(t, q, x)
		taken = append(taken, x)
		if got := ofKey(q.All(), key, true); !slices.Equal(got, others) {
			t.Fatalf("the other keys' ones are %v, and were %v", got, others)
		}
	}
	t.Fatalf("of %d there always is a first one", key)
	return nil
}

// P12.2 by what it says: over drawn items of several keys.
func TestInTurn(t *testing.T) {
	x := uint64(38)
	long := 0
	for range 3000 {
		q := made(t, 16)
		var came []Item
		for i := range 2 + draw(&x, 20) {
			y := Item{i*5%17 - 4, draw(&x, 4) - 1, 1 + draw(&x, 5), draw(&x, 3), draw(&x, 9)}
			if q.Put(y) == api.OK {
				came = append(came, y)
			}
		}
		order := []int{-1, 0, 1, 2}
		for i := range order {
			j := i + draw(&x, len(order)-i)
			order[i], order[j] = order[j], order[i]
			was := q.Of(order[i])
			taken := drained(t, q, order[i])
			inTurn(t, ofKey(came, order[i], false), taken)
			if !slices.Equal(was, taken) {
				t.Fatalf("Of told %v, and %v were taken", was, taken)
			}
			if len(taken) > 3 {
				long++
			}
		}
		has(t, "at last", q)
	}
	if long < 1000 {
		t.Errorf("only %d were long", long)
	}
}

// P12.2: also where items went ahead, were put again, and expired.
func TestInTurnBehindOthers(t *testing.T) {
	x := uint64(39)
	n := 0
	for range 2000 {
		q := made(t, 16)
		for range 30 {
			drawn(&x).onQueue(q)
		}
		for _, key := range q.Keys() {
			came := ofKey(q.All(), key, false)
			inTurn(t, came, drained(t, q, key))
			n += len(came)
		}
		has(t, "at last", q)
	}
	if n < 5000 {
		t.Errorf("only %d were taken", n)
	}
}

// everyCall is what all calls tell, in drawn orders, of some queues and of a nil one.
func everyCall(t *testing.T) []int {
	var out []int
	x := uint64(40)
	items := func(l []Item) {
		out = append(out, len(l))
		for _, y := range l {
			out = append(out, y.ID, y.Key, y.Cost, y.Class, y.Until)
		}
	}
	for _, q := range []*Queue{made(t, 16), made(t, 5), made(t, 0), nil} {
		for range 2000 {
			err, l := drawn(&x).onQueue(q)
			out = append(out, int(err))
			items(l)
			items(q.All())
			out = append(out, q.Keys()...)
			key := drawNear(&x, 2)
			items(told(q.First(key)))
			items(q.Of(key))
			out = append(out, q.Sum(key))
		}
	}
	return out
}

// P1, P2: every call ends, and what it tells hangs on its arguments and the calls ahead of it alone.
func TestArgumentsAlone(t *testing.T) {
	want := everyCall(t)
	for range 5 {
		if !slices.Equal(everyCall(t), want) {
			t.Fatal("the same calls told something else")
		}
	}
}

// P1, P2: each call at all edges, of queues of any room, puts beside them.
func TestAllEnd(t *testing.T) {
	for _, room := range edges() {
		q, err := New(room)
		if (err == api.OK) != (q != nil) {
			t.Fatalf("New(%d): %v, error %d", room, q, err)
		}
		for _, a := range edges() {
			for _, b := range edges() {
				q.Put(Item{a, b, a, b, a})
				q.Put(Item{a, b, b, 1, 5})
				q.Put(Item{b, a, 1, 2, b})
				q.First(a)
				q.Of(a)
				q.Sum(a)
				q.Take(b)
				if a > b {
					q.Expire(a)
				}
				if len(q.All()) > max(room, 0) || len(q.Keys()) > max(room, 0) {
					t.Fatalf("of a room of %d: %v", room, q.All())
				}
			}
		}
	}
}
