package queue

import (
	"math"
	"testing"

	"annona/api"
)

// Q1: a new queue is empty, of any key and name; it has room for as many as it was told, and no more.
func TestNew(t *testing.T) {
	for room := 0; room <= 16; room++ {
		q := made(t, room)
		has(t, "a new one", q)
		keys(t, q)
		for _, x := range edges() {
			noFirst(t, q, x)
			takesNone(t, q, x)
			expires(t, q, x)
			lists(t, q, x)
			sums(t, q, x, 0)
		}
		var want []Item
		for i := range room {
			x := of(i, i%3, i%2)
			puts(t, q, x, api.OK)
			want = append(want, x)
			has(t, "with one more", q, want...)
		}
		puts(t, q, of(room, 0, 0), api.ErrFull)
		puts(t, q, of(-1, 9, 2), api.ErrFull)
		has(t, "a full one", q, want...)
	}
}

// Q1, rule 2: there can't be room for less than 0, or more than 16: no queue then.
func TestNewErrArg(t *testing.T) {
	rooms := []int{-1, -2, -15, -16, -17, 17, 18, 32, 64, 65536, 65537, 1 << 32, -1 << 32, 1<<32 + 1, end, end + 1, -end, math.MinInt, math.MinInt + 1, math.MaxInt - 1, math.MaxInt}
	for _, room := range rooms {
		if q, err := New(room); q != nil || err != api.ErrArg {
			t.Errorf("New(%d): %v, error %d", room, q, err)
		}
	}
}

// The limit that the chapter names.
func TestMostRoom(t *testing.T) {
	if api.MaxQueue != 16 {
		t.Fatalf("MaxQueue is %d", api.MaxQueue)
	}
}

// P2: two queues share nothing.
func TestTwoQueues(t *testing.T) {
	a, b := made(t, 3), made(t, 2)
	puts(t, a, of(1, 5, 0), api.OK)
	has(t, "the other one", b)
	noFirst(t, b, 5)
	takesNone(t, b, 1)
	expires(t, b, math.MaxInt)
	keys(t, b)
	puts(t, b, of(1, 6, 2), api.OK)
	puts(t, b, of(2, 5, 1), api.OK)
	puts(t, b, of(3, 5, 1), api.ErrFull)
	puts(t, a, of(2, 5, 2), api.OK)
	puts(t, a, of(3, 5, 1), api.OK)
	puts(t, a, of(4, 5, 1), api.ErrFull)
	has(t, "the first", a, of(1, 5, 0), of(2, 5, 2), of(3, 5, 1))
	has(t, "the second", b, of(1, 6, 2), of(2, 5, 1))
	takes(t, b, of(2, 5, 1))
	takes(t, a, of(1, 5, 0))
	has(t, "the first", a, of(2, 5, 2), of(3, 5, 1))
	has(t, "the second", b, of(1, 6, 2))
	expires(t, a, math.MaxInt, of(2, 5, 2), of(3, 5, 1))
	has(t, "the second", b, of(1, 6, 2))
	has(t, "a third", made(t, 3))
}

// mayBe are items, each of another name, that may be put.
func mayBe() []Item {
	var l []Item
	for _, cost := range []int{1, 2, 3, 1 << 31, 1<<31 + 1, 1<<40 + 1, end - 1, end, end + 1, math.MaxInt - 1, math.MaxInt} {
		l = append(l, Item{Key: 5, Cost: cost, Class: 1, Until: 30})
	}
	for class := range 3 {
		l = append(l, Item{Key: 5, Cost: 7, Class: class, Until: 30})
	}
	for _, now := range []int{0, 1, 2, 1<<40 + 1, end - 1, end, end + 1, math.MaxInt - 1, math.MaxInt} {
		l = append(l, Item{Key: 5, Cost: 7, Class: 1, Until: now})
	}
	for _, key := range edges() {
		l = append(l, Item{Key: key, Cost: 7, Class: 1, Until: 30})
	}
	l = append(l, Item{Cost: 1}, Item{Key: math.MinInt, Cost: math.MaxInt, Class: 2, Until: math.MaxInt})
	for i := range l {
		l[i].ID = 100 + i
	}
	for _, id := range edges() {
		l = append(l, Item{ID: id, Key: 5, Cost: 7, Class: 1, Until: 30})
	}
	return l
}

// mayNot are items of name 4 that may not be put, most of them by one of their ints alone.
func mayNot() []Item {
	var l []Item
	for _, x := range []int{-1, -2, -7, -end, math.MinInt + 1, math.MinInt} {
		l = append(l,
			Item{4, 5, x, 1, 30},
			Item{4, 5, 7, x, 30},
			Item{4, 5, 7, 1, x})
	}
	for _, class := range []int{3, 4, 5, 16, 65536, 1 << 32, 1<<32 + 1, end, math.MaxInt - 1, math.MaxInt} {
		l = append(l, Item{4, 5, 7, class, 30})
	}
	return append(l, Item{4, 5, 0, 1, 30}, Item{4, 5, 0, 0, 0}, Item{4, 0, 0, 3, -1}, Item{4, 5, -1, -1, -1}, Item{4, 5, 0, 2, 30})
}

// Q1: an item more, if it may be: any name, any key, also below 0 and at both ends.
func TestPut(t *testing.T) {
	for _, x := range mayBe() {
		q := made(t, 1)
		puts(t, q, x, api.OK)
		has(t, "with one", q, x)
		first(t, q, x.Key, x)
		lists(t, q, x.Key, x)
		keys(t, q, x.Key)
		takes(t, q, x)
		has(t, "with none", q)
	}
}

// Q1: it comes behind all, whatever its name, key, class, cost and Until.
func TestPutBehind(t *testing.T) {
	for _, x := range mayBe() {
		l := []Item{{50, 5, 3, 2, 20}, {51, 6, 9, 0, 20}, {52, -5, 1, 1, 50}}
		q := with(t, 16, l...)
		puts(t, q, x, api.OK)
		has(t, "with one more", q, append(l, x)...)
		y := Item{53, 5, 1, 0, 1}
		puts(t, q, y, api.OK)
		has(t, "with two more", q, append(l, x, y)...)
	}
}

// Q1: names of all sizes are told apart.
func TestPutNames(t *testing.T) {
	q := made(t, 16)
	var want []Item
	for i, id := range edges()[2:] {
		x := Item{id, 5, 1 + i, i % 3, i}
		puts(t, q, x, api.OK)
		puts(t, q, x, api.ErrTwice)
		want = append(want, x)
		has(t, "with one more", q, want...)
	}
	for i := range want {
		takes(t, q, want[i])
		takesNone(t, q, want[i].ID)
		has(t, "with one fewer", q, want[i+1:]...)
	}
}

// full is the plain queue beside one with room for so many, and these.
func full(t *testing.T, room int, l ...Item) (*Queue, *plain) {
	t.Helper()
	q, p := with(t, room, l...), &plain{room: room}
	for _, x := range l {
		p.put(x)
	}
	stands(t, "as it was", q, p)
	return q, p
}

// errs holds that Put tells this error, and that nothing has changed by it: also not how many may come yet.
func errs(t *testing.T, q *Queue, p *plain, x Item, want api.Errno) {
	t.Helper()
	for range 2 {
		puts(t, q, x, want)
		stands(t, "behind an error", q, p)
	}
}

// fill puts till there is no room, and holds that there was room for just so many.
func fill(t *testing.T, q *Queue, p *plain, n int) {
	t.Helper()
	for i := range n {
		x := of(1000+i, i, i%3)
		puts(t, q, x, api.OK)
		p.put(x)
	}
	stands(t, "filled", q, p)
	puts(t, q, of(2000, 5, 0), api.ErrFull)
	stands(t, "filled", q, p)
}

// Q1, rules 1 and 3: what may not be put is ErrArg, ahead of ErrTwice and of ErrFull, and changes nothing.
func TestPutErrArg(t *testing.T) {
	for _, x := range mayNot() {
		for _, key := range []int{5, 6, math.MinInt, math.MaxInt} {
			x.Key = key
			q, p := full(t, 2)
			errs(t, q, p, x, api.ErrArg)
			fill(t, q, p, 2)

			q, p = full(t, 8, theSix()...)
			errs(t, q, p, x, api.ErrArg)
			y := x
			y.ID = 77
			errs(t, q, p, y, api.ErrArg)
			fill(t, q, p, 2)

			q, p = full(t, 6, theSix()...)
			errs(t, q, p, x, api.ErrArg)
			errs(t, q, p, y, api.ErrArg)
			takes(t, q, theSix()[2])
			p.take(4)
			fill(t, q, p, 1)

			q, p = full(t, 0)
			errs(t, q, p, x, api.ErrArg)
		}
	}
}

// Q1, rules 1 and 3: a name that one has is ErrTwice, of whatever key, ahead of ErrFull, and changes nothing.
func TestPutErrTwice(t *testing.T) {
	for _, had := range theSix() {
		for _, x := range append(mayBe(), theSix()...) {
			x.ID = had.ID
			q, p := full(t, 7, theSix()...)
			errs(t, q, p, x, api.ErrTwice)
			fill(t, q, p, 1)

			q, p = full(t, 6, theSix()...)
			errs(t, q, p, x, api.ErrTwice)
			puts(t, q, of(99, 5, 0), api.ErrFull)
			stands(t, "full", q, p)
		}
	}
	x := of(7, 5, 1)
	q, p := full(t, 1, x)
	errs(t, q, p, x, api.ErrTwice)
	errs(t, q, p, until(x, 0), api.ErrTwice)
	errs(t, q, p, of(7, 6, 1), api.ErrTwice)
}

// Q1, rule 3: without room it is ErrFull, of a room of 0 too, and changes nothing.
func TestPutErrFull(t *testing.T) {
	for room := 0; room <= 16; room++ {
		var l []Item
		for i := range room {
			l = append(l, of(i*3-9, i%4, (i*2)%3))
		}
		for _, x := range mayBe() {
			x.ID = 500
			q, p := full(t, room, l...)
			errs(t, q, p, x, api.ErrFull)
			if room == 0 {
				continue
			}
			// One that goes makes room for one.
			takes(t, q, l[room/2])
			p.take(l[room/2].ID)
			puts(t, q, x, api.OK)
			p.put(x)
			stands(t, "full once more", q, p)
			errs(t, q, p, l[room/2], api.ErrFull)
		}
	}
}

// Q1: what expires makes room too, for just as many.
func TestPutBehindExpire(t *testing.T) {
	for gone := 0; gone <= 6; gone++ {
		var l []Item
		for i := range 6 {
			l = append(l, until(of(i, i%2, i%3), 10+(i+5)%6))
		}
		q, p := full(t, 6, l...)
		expires(t, q, 9+gone, p.expire(9+gone)...)
		fill(t, q, p, gone)
	}
}

// Q1: a name that went can be put again, and comes behind all then, also within its key and class.
func TestPutAgain(t *testing.T) {
	l := []Item{until(of(1, 5, 1), 10), until(of(2, 5, 1), 20), until(of(3, 5, 1), 30)}
	for i, x := range l {
		for _, by := range []string{"take", "expire"} {
			q := with(t, 3, l...)
			stay := but(l, i)
			if by == "take" {
				takes(t, q, x)
			} else {
				expires(t, q, x.Until, l[:i+1]...)
				stay = l[i+1:]
			}
			takesNone(t, q, x.ID)
			puts(t, q, x, api.OK)
			has(t, by, q, append(stay, x)...)
			lists(t, q, 5, append(stay, x)...)
			puts(t, q, x, api.ErrTwice)
		}
	}
	// Of another key, and another class, it is that then.
	q := with(t, 3, l...)
	takes(t, q, l[0])
	puts(t, q, of(1, 6, 0), api.OK)
	has(t, "of another key", q, l[1], l[2], of(1, 6, 0))
	first(t, q, 5, l[1])
	first(t, q, 6, of(1, 6, 0))
}

// Q1, rule 8: a nil queue tells ErrArg, zero items, false, 0, and nothing, whatever it is asked.
func TestNil(t *testing.T) {
	var q *Queue
	for _, x := range append(mayBe(), mayNot()...) {
		puts(t, q, x, api.ErrArg)
		has(t, "nil", q)
		takesNone(t, q, x.ID)
		noFirst(t, q, x.Key)
	}
	for _, x := range edges() {
		noFirst(t, q, x)
		takesNone(t, q, x)
		expires(t, q, x)
		lists(t, q, x)
		sums(t, q, x, 0)
	}
	keys(t, q)
	has(t, "nil", q)
}
