package queue

import (
	"math"
	"slices"
	"testing"

	"annona/api"
)

// Q1: the item of a name goes, wherever it stands; the others stay as they came.
func TestTake(t *testing.T) {
	for i, x := range theSix() {
		q := six(t)
		takes(t, q, x)
		stay := but(theSix(), i)
		has(t, "with one fewer", q, stay...)
		takesNone(t, q, x.ID)
		has(t, "with one fewer", q, stay...)
		for j := range stay {
			takes(t, q, stay[j])
			has(t, "with more gone", q, stay[j+1:]...)
		}
		keys(t, q)
	}
}

// Q1: the last one first, too, of a queue of any room that is full.
func TestTakeBackwards(t *testing.T) {
	for room := 1; room <= 16; room++ {
		var l []Item
		for i := range room {
			l = append(l, of(50-i, i%3, (i+1)%3))
		}
		q := with(t, room, l...)
		for i := room - 1; i >= 0; i-- {
			takes(t, q, l[i])
			has(t, "with the last one gone", q, l[:i]...)
		}
		takesNone(t, q, 50)
	}
}

// Q1: without one of that name the zero item and false, and nothing has changed: a name is no key, and no place.
func TestTakeNone(t *testing.T) {
	q := six(t)
	for _, id := range append(slices.DeleteFunc(edges(), func(x int) bool { return x == 0 || x == 3 || x == -2 }), 5, 6, -7, 65541, 7, 9, 10, 12, -8, 1<<32+8, 4<<32) {
		takesNone(t, q, id)
	}
	has(t, "asked in vain", q, theSix()...)
	takes(t, q, theSix()[4])
	takesNone(t, q, 0)
	has(t, "asked in vain", q, but(theSix(), 4)...)
	// What may not be put has no name here.
	puts(t, q, Item{ID: 99, Key: 5}, api.ErrArg)
	takesNone(t, q, 99)
	q = with(t, 1, of(7, 5, 0))
	puts(t, q, of(8, 5, 0), api.ErrFull)
	takesNone(t, q, 8)
	has(t, "a full one", q, of(7, 5, 0))
}

// Q1: what is taken is the whole item, whichever others are like it.
func TestTakeAlike(t *testing.T) {
	l := []Item{{1, 5, 3, 1, 9}, {2, 5, 3, 1, 9}, {3, 5, 3, 1, 9}, {4, 5, 3, 1, 9}}
	for i, x := range l {
		q := with(t, 4, l...)
		takes(t, q, x)
		has(t, "one of some that are alike", q, but(l, i)...)
		lists(t, q, 5, but(l, i)...)
	}
}

// Q1: those whose Until is not above now go.
func TestExpireOne(t *testing.T) {
	for _, c := range []struct {
		until, now int
		goes       bool
	}{
		{30, 29, false},
		{30, 30, true},
		{30, 31, true},
		{30, 0, false},
		{30, -1, false},
		{30, -30, false},
		{30, math.MinInt, false},
		{30, math.MaxInt, true},
		{0, -1, false},
		{0, 0, true},
		{0, 1, true},
		{0, math.MinInt, false},
		{1, 0, false},
		{1, 1, true},
		{1, 2, true},
		{end, end - 1, false},
		{end, end, true},
		{end, end + 1, true},
		{end + 1, end, false},
		{end + 1, end + 1, true},
		{math.MaxInt, math.MaxInt - 1, false},
		{math.MaxInt, math.MaxInt, true},
		{math.MaxInt, math.MinInt, false},
		{math.MaxInt - 1, math.MaxInt, true},
		{math.MaxInt - 1, math.MaxInt - 2, false},
		{1 << 32, 1<<32 - 1, false},
		{1 << 32, 1 << 32, true},
	} {
		for class := range 3 {
			x := until(of(7, 5, class), c.until)
			q := with(t, 1, x)
			if !c.goes {
				expires(t, q, c.now)
				has(t, "waits yet", q, x)
				first(t, q, 5, x)
				puts(t, q, x, api.ErrTwice)
				continue
			}
			expires(t, q, c.now, x)
			has(t, "gone", q)
			noFirst(t, q, 5)
			takesNone(t, q, 7)
			expires(t, q, c.now)
			puts(t, q, x, api.OK)
		}
	}
}

// Q1: what goes is told as it came, of all keys and classes; what stays stays as it came.
func TestExpire(t *testing.T) {
	l := theSix()
	for _, c := range []struct {
		now  int
		gone []int
	}{
		{math.MinInt, nil},
		{-1, nil},
		{0, nil},
		{9, nil},
		{10, []int{3}},
		{19, []int{3}},
		{20, []int{1, 3, 5}},
		{24, []int{1, 3, 5}},
		{25, []int{1, 3, 4, 5}},
		{29, []int{1, 3, 4, 5}},
		{30, []int{0, 1, 3, 4, 5}},
		{39, []int{0, 1, 3, 4, 5}},
		{40, []int{0, 1, 2, 3, 4, 5}},
		{math.MaxInt, []int{0, 1, 2, 3, 4, 5}},
	} {
		q := six(t)
		var gone []Item
		for _, i := range c.gone {
			gone = append(gone, l[i])
		}
		stay := but(l, c.gone...)
		expires(t, q, c.now, gone...)
		has(t, "what stays", q, stay...)
		expires(t, q, c.now)
		has(t, "what stays, asked again", q, stay...)
		for _, x := range gone {
			takesNone(t, q, x.ID)
		}
		for _, x := range stay {
			takes(t, q, x)
		}
		has(t, "at last", q)
	}
}

// Q1: each of all ways to go and to stay, of queues up to six items.
func TestExpireAnyOnes(t *testing.T) {
	for n := range 7 {
		for bits := range 1 << n {
			var l, gone, stay []Item
			for i := range n {
				x := of(n-i, (i*2)%3, 2-i%3)
				if bits>>i&1 == 1 {
					x = until(x, 10-(i*3)%7)
					gone = append(gone, x)
				} else {
					x = until(x, 11+(i*3)%7)
					stay = append(stay, x)
				}
				l = append(l, x)
			}
			q := with(t, 16, l...)
			expires(t, q, 10, gone...)
			has(t, "what stays", q, stay...)
			more := of(99, 1, 0)
			puts(t, q, more, api.OK)
			has(t, "and one more", q, append(stay, more)...)
		}
	}
}

// Q1: several times in a row, now falling too.
func TestExpireOften(t *testing.T) {
	q := six(t)
	l := theSix()
	expires(t, q, 10, l[3])
	expires(t, q, 9)
	expires(t, q, 20, l[1], l[5])
	expires(t, q, 10)
	puts(t, q, until(of(60, 5, 1), 5), api.OK)
	has(t, "with one more", q, l[0], l[2], l[4], until(of(60, 5, 1), 5))
	expires(t, q, 4)
	expires(t, q, 5, until(of(60, 5, 1), 5))
	expires(t, q, 30, l[0], l[4])
	expires(t, q, 39)
	expires(t, q, 40, l[2])
	expires(t, q, math.MaxInt)
	has(t, "at last", q)
}

// Q1: an empty queue has nothing that goes.
func TestExpireNone(t *testing.T) {
	for _, now := range edges() {
		q := made(t, 4)
		expires(t, q, now)
		puts(t, q, of(1, 5, 0), api.OK)
		takes(t, q, of(1, 5, 0))
		expires(t, q, now)
		has(t, "an empty one", q)
	}
}
