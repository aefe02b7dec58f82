package edge

import (
	"math"
	"slices"
	"testing"

	"annona/api"
	"annona/lease"
)

// wrong is a configuration that may not be, and its error.
type wrong struct {
	c   api.Conf
	err api.Errno
}

// wrongOnes are such, of each of chapter 3's errors, at the edges that it names.
func wrongOnes() []wrong {
	var l []wrong
	add := func(err api.Errno, turn func(*api.Conf)) {
		c := theConf()
		turn(&c)
		l = append(l, wrong{c, err})
	}
	for _, x := range []int{0, -1, 65, end, math.MinInt, math.MaxInt} {
		add(api.ErrNodes, func(c *api.Conf) { c.N = x })
	}
	for _, x := range []int{-1, 1<<31 + 1, end, math.MinInt, math.MaxInt} {
		add(api.ErrTimes, func(c *api.Conf) { c.Skew = x })
	}
	for _, x := range []int{0, -1, 1<<31 + 1, end, math.MinInt, math.MaxInt} {
		add(api.ErrTimes, func(c *api.Conf) { c.TTL = x })
		add(api.ErrTimes, func(c *api.Conf) { c.Valid = x })
		add(api.ErrTimes, func(c *api.Conf) { c.Loss = x })
		add(api.ErrTimes, func(c *api.Conf) { c.Hear = x })
	}
	for _, x := range []int{0, -1, 17, end, math.MinInt, math.MaxInt} {
		add(api.ErrRooms, func(c *api.Conf) { c.Keys = x })
	}
	for _, x := range []int{-1, 17, end, math.MinInt, math.MaxInt} {
		add(api.ErrRooms, func(c *api.Conf) { c.Queue = x })
	}
	add(api.ErrRates, func(c *api.Conf) { c.Rates = nil })
	add(api.ErrRates, func(c *api.Conf) { c.Rates = []api.Rate{} })
	add(api.ErrRates, func(c *api.Conf) { c.Rates = make([]api.Rate, 9) })
	for _, x := range []int{-1, 1<<31 + 1, end, math.MinInt, math.MaxInt} {
		for i := range 3 {
			add(api.ErrRates, func(c *api.Conf) { c.Rates[i].R = x })
			add(api.ErrRates, func(c *api.Conf) { c.Rates[i].B = x })
		}
	}
	return append(l, wrong{api.Conf{}, api.ErrNodes})
}

// H1: the configuration's error, and no edge.
func TestNewOfWrongOnes(t *testing.T) {
	for _, x := range wrongOnes() {
		if e, err := New(x.c); e != nil || err != x.err {
			t.Errorf("New(%+v): %v, error %d, not %d", x.c, e, err, x.err)
		}
	}
}

// H1: where several errors apply, that which chapter 3 names first.
func TestNewFirstError(t *testing.T) {
	turns := []func(*api.Conf){
		func(c *api.Conf) { c.N = 0 },
		func(c *api.Conf) { c.TTL = 0 },
		func(c *api.Conf) { c.Queue = 17 },
		func(c *api.Conf) { c.Rates = nil },
	}
	errs := []api.Errno{api.ErrNodes, api.ErrTimes, api.ErrRooms, api.ErrRates}
	for set := 1; set < 16; set++ {
		c, want := theConf(), api.OK
		for i := range turns {
			if set>>i&1 == 1 {
				turns[i](&c)
				if want == api.OK {
					want = errs[i]
				}
			}
		}
		if e, err := New(c); e != nil || err != want {
			t.Errorf("New(%+v): %v, error %d, not %d", c, e, err, want)
		}
	}
}

// rightOnes are configurations that may be, at the edges that chapter 3 names.
func rightOnes() []api.Conf {
	most := 1 << 31
	l := []api.Conf{
		theConf(), bursts(0), bursts(most),
		{N: 1, TTL: 1, Valid: 1, Loss: 1, Hear: 1, Keys: 1, Rates: make([]api.Rate, 1)},
		{
			N: 64, Skew: most, TTL: most, Valid: most, Loss: most, Hear: most, Keys: 16, Queue: 16,
			Rates: slices.Repeat([]api.Rate{{R: most, B: most}}, 8),
		},
	}
	for n := range 17 {
		l = append(l, room(theConf(), n))
	}
	return l
}

// H1: a new edge has no leases, and no items, and nothing is wanted.
func TestNew(t *testing.T) {
	for _, c := range rightOnes() {
		e := made(t, c)
		for range 2 {
			state{}.is(t, "a new one", e)
			expires(t, e, math.MaxInt)
			refuses(t, e, 5, api.TableFull)
			closes(t, e, 5, 1, -1)
			e.Drop(math.MaxInt)
			crashes(t, e)
		}
		state{}.is(t, "a new one, asked", e)
	}
}

// P2: two edges share nothing, of one configuration or of two.
func TestTwoEdges(t *testing.T) {
	c := theConf()
	a, b, other := made(t, c), made(t, c), made(t, room(theConf(), 1))
	asks(t, a, request(1, 5, 3), 0)
	grants(t, a, of(6, 7, 6, 30), 0)
	asks(t, a, request(2, 6, 4), 0, yes(2, 7))
	state{}.is(t, "the second", b)
	state{}.is(t, "the third", other)
	asks(t, b, request(1, 5, 2), 0)
	grants(t, b, of(6, 8, 5, 20), 0)
	asks(t, other, request(1, 6, 2), 0)
	asks(t, other, request(2, 6, 2), 0, no(2, api.QueueFull))
	closes(t, a, 6, 7, 4)
	estimated(t, b, 7, 5)
	crashes(t, other, no(1, api.Restarted))
	waiting(t, a, item(request(1, 5, 3), 10))
	leases(t, a)
	wants(t, a, Want{5, 3}, Want{6, 4})
	waiting(t, b, item(request(1, 5, 2), 10))
	leases(t, b, of(6, 8, 5, 20))
	wants(t, b, Want{5, 2}, Want{7, 5})
	state{}.is(t, "the third", other)
	crashes(t, a, no(1, api.Restarted))
	state{}.is(t, "the first", a)
	waiting(t, b, item(request(1, 5, 2), 10))
	wants(t, b, Want{5, 2}, Want{7, 5})
	state{}.is(t, "a fourth", made(t, c))
}

// Rule 4: nobody writes into a configuration's rates, nor behind them.
func TestRatesStay(t *testing.T) {
	rates := []api.Rate{{R: 2, B: 9}, {R: 1, B: 100}, {R: 3, B: 0}, {R: 77, B: 77}, {R: 78, B: 78}}
	c := theConf()
	c.Rates = rates[:3]
	was := slices.Clone(rates)
	e := made(t, c)
	x := uint64(43)
	for range 2000 {
		drawn(&x).onEdge(e)
		e.Wants()
	}
	if !slices.Equal(rates, was) {
		t.Errorf("the rates are %v now", rates)
	}
}

// Rule 4: what is handed in isn't kept: of rates that are others later, the edge keeps those of old, and behind a crash too.
func TestRatesAreNotKept(t *testing.T) {
	c := theConf()
	c.Rates = append(make([]api.Rate, 0, 8), c.Rates...)
	e := made(t, c)
	for i := range c.Rates {
		c.Rates[i] = api.Rate{R: 50, B: 50}
	}
	c.Rates = append(c.Rates, api.Rate{R: 50, B: 50})
	for range 2 {
		asks(t, e, request(1, 5, 10), 0, no(1, api.OverBurst))
		asks(t, e, request(1, 5, 9), 0)
		asks(t, e, request(2, 5, 9), 0)
		asks(t, e, request(3, policy, 100), 0)
		asks(t, e, request(4, policy, 101), 0, no(4, api.OverBurst))
		asks(t, e, request(4, 2*policy, 1), 0, no(4, api.OverBurst))
		asks(t, e, request(4, 3*policy, 1), 0, no(4, api.Unknown))
		wants(t, e, Want{5, 9}, Want{policy, 100})
		crashes(t, e, nos(api.Restarted, 1, 2, 3)...)
	}
}

// The way of this layer: an edge has its wallet's calls too.
func TestWalletsCalls(t *testing.T) {
	e := made(t, theConf())
	asks(t, e, request(1, 5, 3), 0)
	if err := e.Put(of(5, 7, 6, 30)); err != api.OK {
		t.Errorf("Put: error %d", err)
	}
	if err := e.Put(of(5, 8, 6, 30)); err != api.ErrTwice {
		t.Errorf("Put: error %d", err)
	}
	if gen, ok := e.Spend(5, 4, 29); gen != 7 || !ok {
		t.Errorf("Spend: %d, %t", gen, ok)
	}
	if n := e.Left(5, 29); n != 2 {
		t.Errorf("Left: %d", n)
	}
	if l := e.All(); !slices.Equal(l, []lease.Lease{spent(of(5, 7, 6, 30), 4)}) {
		t.Errorf("All: %v", l)
	}
	leases(t, e, spent(of(5, 7, 6, 30), 4))
	waiting(t, e, item(request(1, 5, 3), 10))
}
