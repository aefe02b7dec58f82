package edge

import (
	"math"
	"slices"
	"testing"

	"annona/api"
	"annona/queue"
)

// but are items without those of these names.
func but(l []queue.Item, ids ...int) []queue.Item {
	return slices.DeleteFunc(slices.Clone(l), func(x queue.Item) bool { return slices.Contains(ids, x.ID) })
}

// H2: all whose Until is not above now go, as they came, each answered EXPIRED; leases and estimates stay.
func TestExpire(t *testing.T) {
	for _, x := range []struct {
		now int
		ids []int
	}{
		{math.MinInt, nil}, {-1, nil}, {0, nil}, {9, nil},
		{10, []int{11}}, {19, []int{11}}, {20, []int{-2, 11}}, {24, []int{-2, 11}}, {25, []int{-2, 11, 0}},
		{29, []int{-2, 11, 0}}, {30, []int{8, -2, 11, 0}}, {39, []int{8, -2, 11, 0}}, {40, []int{8, -2, 4, 11, 0}},
		{end, []int{8, -2, 4, 11, 0}}, {math.MaxInt, []int{8, -2, 4, 11, 0}},
	} {
		e := five(t)
		expires(t, e, x.now, nos(api.Expired, x.ids...)...)
		waiting(t, e, but(theItems(), x.ids...)...)
		leases(t, e, fiveIs().leases...)
		expires(t, e, x.now)
		expires(t, e, math.MaxInt, nos(api.Expired, restOf(x.ids)...)...)
		wants(t, e, Want{6, 2}, Want{7, 7})
		leases(t, e, fiveIs().leases...)
	}
}

// restOf are the names of those of theFive that aren't these, as they came.
func restOf(ids []int) []int {
	var l []int
	for _, x := range but(theItems(), ids...) {
		l = append(l, x.ID)
	}
	return l
}

// H2: one that goes makes room for the next of its key, whom nothing serves by that.
func TestExpireServesNoOne(t *testing.T) {
	e := asked(t, theConf(), waits(request(1, 5, 7), 10), waits(request(2, 5, 1), 20))
	grants(t, e, of(5, 7, 6, 30), 0)
	expires(t, e, 10, no(1, api.Expired))
	waiting(t, e, item(request(2, 5, 1), 20))
	leases(t, e, of(5, 7, 6, 30))
}

// reasons are all, and some that are none.
func reasons() []api.Reason {
	return []api.Reason{
		api.Granted, api.NoCredit, api.QueueFull, api.Expired, api.TableFull, api.OverBurst, api.Unknown, api.Malformed, api.Restarted,
		9, -1, 1 << 40, math.MinInt, math.MaxInt,
	}
}

// H2: each of a key's items goes, the first one first, answered with that reason, and with generation 0, whatever it is; other keys' stay.
func TestRefuse(t *testing.T) {
	for _, why := range reasons() {
		for key, ids := range map[int][]int{5: {4, 8, 11}, 6: {-2}, policy + 5: {0}, 7: nil, 9: nil, 4: nil, -5: nil, math.MaxInt: nil, math.MinInt: nil} {
			e := five(t)
			refuses(t, e, key, why, nos(why, ids...)...)
			waiting(t, e, but(theItems(), ids...)...)
			leases(t, e, fiveIs().leases...)
			refuses(t, e, key, why)
			waiting(t, e, but(theItems(), ids...)...)
		}
	}
	e := five(t)
	refuses(t, e, 6, api.TableFull, no(-2, api.TableFull))
	refuses(t, e, 5, api.NoCredit, nos(api.NoCredit, 4, 8, 11)...)
	refuses(t, e, policy+5, 77, no(0, 77))
	waiting(t, e)
	wants(t, e, Want{6, 2}, Want{7, 7})
}

// H2: by classes, and within a class as they came.
func TestRefuseInOrder(t *testing.T) {
	x := uint64(44)
	for range 300 {
		e := made(t, room(theConf(), 16))
		var l [3][]int
		for i := range 16 {
			class, key := draw(&x, 3), 5+draw(&x, 4)/3
			asks(t, e, classed(request(i*5%16, key, 1+draw(&x, 9)), class), 0)
			if key == 5 {
				l[class] = append(l[class], i*5%16)
			}
		}
		refuses(t, e, 5, api.TableFull, nos(api.TableFull, slices.Concat(l[0], l[1], l[2])...)...)
		for _, y := range e.Waiting() {
			if y.Key != 6 {
				t.Fatalf("%v wait", e.Waiting())
			}
		}
	}
}

// H2: all items go, as they came, each answered RESTARTED, and with them leases and estimates.
func TestCrash(t *testing.T) {
	e := five(t)
	crashes(t, e, nos(api.Restarted, 8, -2, 4, 11, 0)...)
	state{}.is(t, "crashed", e)
	crashes(t, e)
	closes(t, e, 7, 3, -1)
	expires(t, e, math.MaxInt)
	refuses(t, e, 5, api.TableFull)
	state{}.is(t, "crashed twice", e)
}

// H2: an edge goes on behind a crash, with its configuration: its rates, and its room, as a new one.
func TestBehindACrash(t *testing.T) {
	for _, c := range confs() {
		e := made(t, c)
		x := uint64(45)
		for range 3 {
			for range 60 {
				drawn(&x).onEdge(e)
			}
			e.Crash()
			state{}.is(t, "crashed", e)
			p := &plain{c: c}
			y := x
			for range 60 {
				tried(t, e, p, drawn(&y))
			}
			e.Crash()
		}
	}
	e := five(t)
	e.Crash()
	toFive(t, e)
	fiveIs().is(t, "as it was", e)
}

// Of whatever is not granted Gen is 0, though there are leases of its key.
func TestGenOfWhoIsDenied(t *testing.T) {
	x := uint64(46)
	n := 0
	for range 300 {
		e := made(t, room(theConf(), 3))
		for range 80 {
			a := drawn(&x)
			l, _ := a.onEdge(e)
			if a.how == toRefuse && a.why == api.Granted {
				continue
			}
			for _, y := range l {
				if (y.Reason == api.Granted) != (y.Gen != 0) {
					t.Fatalf("%+v: %+v", a, y)
				}
				n++
			}
		}
	}
	if n < 5000 {
		t.Errorf("only %d were answered", n)
	}
}
