package conf

import (
	"math"
	"math/big"
	"slices"
	"testing"

	"annona/api"
)

const (
	span = 1 << 31
	most = 1 << 40
	end  = 1 << 62
)

// ordinary is a configuration that may be, with new memory for its rates each time.
func ordinary() api.Conf {
	return api.Conf{N: 5, Skew: 4, TTL: 3, Valid: 6, Loss: 20, Hear: 30, Keys: 8, Queue: 4, Rates: []api.Rate{{R: 2, B: 9}, {R: 1, B: 5}, {R: 0, B: 7}}}
}

// changed is the ordinary one, changed.
func changed(change func(c *api.Conf)) api.Conf {
	c := ordinary()
	change(&c)
	return c
}

// rated is the ordinary one with other rates.
func rated(l ...api.Rate) api.Conf {
	return changed(func(c *api.Conf) { c.Rates = l })
}

// rates are k rates that may be, no two the same.
func rates(k int) []api.Rate {
	l := make([]api.Rate, k)
	for i := range l {
		l[i] = api.Rate{R: i, B: 10 * i}
	}
	return l
}

// field is one number of a configuration, with its bounds and its error by the chapter's words.
type field struct {
	name        string
	at          func(c *api.Conf) *int
	least, most int
	err         api.Errno
}

// fields are all of them.
func fields() []field {
	return []field{
		{"N", func(c *api.Conf) *int { return &c.N }, 1, 64, api.ErrNodes},
		{"Skew", func(c *api.Conf) *int { return &c.Skew }, 0, span, api.ErrTimes},
		{"TTL", func(c *api.Conf) *int { return &c.TTL }, 1, span, api.ErrTimes},
		{"Valid", func(c *api.Conf) *int { return &c.Valid }, 1, span, api.ErrTimes},
		{"Loss", func(c *api.Conf) *int { return &c.Loss }, 1, span, api.ErrTimes},
		{"Hear", func(c *api.Conf) *int { return &c.Hear }, 1, span, api.ErrTimes},
		{"Keys", func(c *api.Conf) *int { return &c.Keys }, 1, 16, api.ErrRooms},
		{"Queue", func(c *api.Conf) *int { return &c.Queue }, 0, 16, api.ErrRooms},
		{"R of the first rate", func(c *api.Conf) *int { return &c.Rates[0].R }, 0, span, api.ErrRates},
		{"R of the last rate", func(c *api.Conf) *int { return &c.Rates[2].R }, 0, span, api.ErrRates},
		{"B of the first rate", func(c *api.Conf) *int { return &c.Rates[0].B }, 0, span, api.ErrRates},
		{"B of a rate between", func(c *api.Conf) *int { return &c.Rates[1].B }, 0, span, api.ErrRates},
		{"B of the last rate", func(c *api.Conf) *int { return &c.Rates[2].B }, 0, span, api.ErrRates},
	}
}

// ints are ints at and beside all that the chapter names.
func ints() []int {
	return []int{
		math.MinInt, math.MinInt + 1, -end, -most, -span, -65537, -65536, -65, -64, -2, -1,
		0, 1, 2, 3, 4, 5, 6, 7, 8, 9, 15, 16, 17, 62, 63, 64, 65, 66, 127, 128, 129,
		65534, 65535, 65536, 65537, 131071, 131072, 458751, 458752, 524287, 524288, 524289,
		span - 1, span, span + 1, 1 << 32, 1<<32 + 1,
		most - 129, most - 128, most - 127, most - 66, most - 65, most - 64, most - 63, most - 62, most - 3, most - 2, most - 1,
		most, most + 1, most + 2, most + 63, most + 64, most + 65,
		end - 1, end, end + 1, math.MaxInt - 64, math.MaxInt - 1, math.MaxInt,
	}
}

// drawn are ints of all sizes and both signs, by a fixed rule: the same ones each time.
func drawn(n int) []int {
	l := make([]int, n)
	x := uint64(3)
	for i := range l {
		x = x*6364136223846793005 + 1442695040888963407
		l[i] = int(x) >> ((x >> 33) % 63)
	}
	return l
}

func TestLimits(t *testing.T) {
	for i, x := range [][2]int{{api.MaxNodes, 64}, {api.MaxSpan, span}, {api.MaxKeys, 16}, {api.MaxQueue, 16}, {api.MaxRates, 8}, {api.MaxName, 65535}, {api.MaxGen, most}, {api.Forever, end}} {
		if x[0] != x[1] {
			t.Errorf("limit %d is %d, not %d", i, x[0], x[1])
		}
	}
}

func TestCheckOrdinary(t *testing.T) {
	for i, c := range []api.Conf{
		ordinary(),
		{N: 1, Skew: 0, TTL: 1, Valid: 1, Loss: 1, Hear: 1, Keys: 1, Queue: 0, Rates: []api.Rate{{}}},
		{N: 64, Skew: span, TTL: span, Valid: span, Loss: span, Hear: span, Keys: 16, Queue: 16, Rates: []api.Rate{{R: span, B: span}}},
		{N: 4, Skew: 4, TTL: 3, Valid: 6, Loss: 1, Hear: 1, Keys: 2, Queue: 1, Rates: rates(8)},
	} {
		if got := Check(c); got != api.OK {
			t.Errorf("configuration %d: error %d", i, got)
		}
	}
	if got := Check(api.Conf{}); got != api.ErrNodes {
		t.Errorf("the zero configuration: error %d", got)
	}
}

// TestCheckEachNumber: each number alone, beside, at and between its bounds, and far from them.
func TestCheckEachNumber(t *testing.T) {
	for _, f := range fields() {
		tried := append(ints(), f.least-1, f.least, f.least+1, f.most-1, f.most, f.most+1)
		for _, x := range tried {
			want := f.err
			if x >= f.least && x <= f.most {
				want = api.OK
			}
			got := Check(changed(func(c *api.Conf) { *f.at(c) = x }))
			if got != want {
				t.Errorf("%s is %d: error %d, not %d", f.name, x, got, want)
			}
		}
	}
}

func TestCheckRates(t *testing.T) {
	for _, r := range []struct {
		name string
		l    []api.Rate
		want api.Errno
	}{
		{"nil", nil, api.ErrRates},
		{"an empty list", []api.Rate{}, api.ErrRates},
		{"an empty list with rates behind it", rates(3)[:0], api.ErrRates},
		{"1", rates(1), api.OK},
		{"7", rates(7), api.OK},
		{"8", rates(8), api.OK},
		{"9", rates(9), api.ErrRates},
		{"100", rates(100), api.ErrRates},
		{"8 of a list of 9", rates(9)[:8], api.OK},
		{"the same one several times", []api.Rate{{R: 1, B: 1}, {R: 1, B: 1}}, api.OK},
		{"one R below 0", []api.Rate{{R: 1, B: 1}, {R: -1, B: 1}, {R: 1, B: 1}}, api.ErrRates},
		{"one R above 2^31", []api.Rate{{R: 1, B: 1}, {R: span + 1, B: 1}, {R: 1, B: 1}}, api.ErrRates},
		{"one B below 0", []api.Rate{{R: 1, B: 1}, {R: 1, B: -1}, {R: 1, B: 1}}, api.ErrRates},
		{"one B above 2^31", []api.Rate{{R: 1, B: 1}, {R: 1, B: span + 1}, {R: 1, B: 1}}, api.ErrRates},
		{"R and B at their greatest", []api.Rate{{R: span, B: span}, {R: 0, B: 0}}, api.OK},
		{"R above B", []api.Rate{{R: 9, B: 1}}, api.OK},
	} {
		if got := Check(rated(r.l...)); got != r.want {
			t.Errorf("rates, %s: error %d, not %d", r.name, got, r.want)
		}
	}
	for k := range 8 {
		for _, wrong := range []api.Rate{{R: -1}, {B: -1}, {R: span + 1}, {B: span + 1}} {
			l := rates(8)
			l[k] = wrong
			if got := Check(rated(l...)); got != api.ErrRates {
				t.Errorf("rate %d of 8 is %v: error %d", k, wrong, got)
			}
		}
	}
	// What lies behind a list's length counts not.
	l := []api.Rate{{R: 1, B: 1}, {R: -1, B: -1}}
	if got := Check(rated(l[:1]...)); got != api.OK {
		t.Errorf("a wrong rate behind the list's length: error %d", got)
	}
}

// TestCheckFirstError: of several errors, the one that the chapter names first.
func TestCheckFirstError(t *testing.T) {
	order := []api.Errno{api.ErrNodes, api.ErrTimes, api.ErrRooms, api.ErrRates}
	all := fields()
	for _, f := range all {
		for _, g := range all {
			for _, wrong := range [][2]int{{f.least - 1, g.least - 1}, {f.most + 1, g.most + 1}, {f.least - 1, g.most + 1}} {
				c := changed(func(c *api.Conf) { *f.at(c), *g.at(c) = wrong[0], wrong[1] })
				want := order[min(slices.Index(order, f.err), slices.Index(order, g.err))]
				if got := Check(c); got != want {
					t.Errorf("%s and %s may not be: error %d, not %d", f.name, g.name, got, want)
				}
			}
		}
	}
	c := changed(func(c *api.Conf) { c.N, c.Hear, c.Queue, c.Rates = 0, 0, -1, nil })
	for _, want := range order {
		if got := Check(c); got != want {
			t.Errorf("error %d, not %d", got, want)
		}
		switch want {
		case api.ErrNodes:
			c.N = 1
		case api.ErrTimes:
			c.Hear = 1
		case api.ErrRooms:
			c.Queue = 0
		}
	}
}

func TestSameOrdinary(t *testing.T) {
	if !Same(ordinary(), ordinary()) {
		t.Error("two that are the same")
	}
	c := ordinary()
	if !Same(c, c) {
		t.Error("one and itself")
	}
	if !Same(api.Conf{}, api.Conf{}) {
		t.Error("the zero configuration and itself")
	}
	if Same(api.Conf{}, ordinary()) || Same(ordinary(), api.Conf{}) {
		t.Error("the zero configuration and another one")
	}
}

// TestSameOneNumber: two that differ in one number alone, or in none, also where these may not be.
func TestSameOneNumber(t *testing.T) {
	for _, f := range fields() {
		for _, x := range ints() {
			c := changed(func(c *api.Conf) { *f.at(c) = x })
			other := ordinary()
			want := x == *f.at(&other)
			if Same(c, other) != want || Same(other, c) != want {
				t.Errorf("%s is %d in one, %d in the other: the same: %v", f.name, x, *f.at(&other), !want)
			}
			if !Same(c, changed(func(c *api.Conf) { *f.at(c) = x })) {
				t.Errorf("%s is %d in both: not the same", f.name, x)
			}
		}
	}
	// Two numbers that change places are two that differ.
	all := fields()
	for i, f := range all {
		for _, g := range all[:i] {
			a := changed(func(c *api.Conf) { *f.at(c), *g.at(c) = 11, 12 })
			b := changed(func(c *api.Conf) { *f.at(c), *g.at(c) = 12, 11 })
			if Same(a, b) {
				t.Errorf("%s and %s change places: the same", f.name, g.name)
			}
		}
	}
}

func TestSameRates(t *testing.T) {
	for _, r := range []struct {
		name string
		a, b []api.Rate
		want bool
	}{
		{"nil and nil", nil, nil, true},
		{"nil and an empty list", nil, []api.Rate{}, true},
		{"nil and an empty list with rates behind it", nil, rates(3)[:0], true},
		{"nil and the zero rate", nil, []api.Rate{{}}, false},
		{"an empty list and the zero rate", []api.Rate{}, []api.Rate{{}}, false},
		{"the same ones", rates(3), rates(3), true},
		{"8", rates(8), rates(8), true},
		{"9, though they may not be", rates(9), rates(9), true},
		{"one more", rates(3), rates(4), false},
		{"one more, behind the length", rates(3), rates(4)[:3], true},
		{"the zero rate more", []api.Rate{{R: 1, B: 2}}, []api.Rate{{R: 1, B: 2}, {}}, false},
		{"one twice", []api.Rate{{R: 1, B: 2}}, []api.Rate{{R: 1, B: 2}, {R: 1, B: 2}}, false},
		{"another order", []api.Rate{{R: 1, B: 2}, {R: 3, B: 4}}, []api.Rate{{R: 3, B: 4}, {R: 1, B: 2}}, false},
		{"another R", []api.Rate{{R: 1, B: 2}}, []api.Rate{{R: 3, B: 2}}, false},
		{"another B", []api.Rate{{R: 1, B: 2}}, []api.Rate{{R: 1, B: 3}}, false},
		{"R and B change places", []api.Rate{{R: 1, B: 2}}, []api.Rate{{R: 2, B: 1}}, false},
		{"below 0", []api.Rate{{R: -1, B: -2}}, []api.Rate{{R: -1, B: -2}}, true},
	} {
		if Same(rated(r.a...), rated(r.b...)) != r.want || Same(rated(r.b...), rated(r.a...)) != r.want {
			t.Errorf("rates, %s: not %v", r.name, r.want)
		}
	}
	for k := range 8 {
		l := rates(8)
		l[k].B++
		if Same(rated(rates(8)...), rated(l...)) {
			t.Errorf("rate %d of 8 differs: the same", k)
		}
	}
}

func TestQuarantine(t *testing.T) {
	for _, r := range []struct {
		name                   string
		valid, ttl, skew, want int
	}{
		{"ordinary", 6, 3, 4, 25},
		{"without a skew", 6, 3, 0, 9},
		{"the least that may be", 1, 1, 0, 2},
		{"the greatest that may be", span, span, span, 6 * span},
		{"all 0", 0, 0, 0, 0},
		{"Valid below 0", -100, 3, 4, 19},
		{"TTL below 0", 6, -100, 4, 22},
		{"Skew below 0", 6, 3, -100, 9},
		{"all below 0", -1, -1, -1, 0},
		{"the least ints", math.MinInt, math.MinInt, math.MinInt, 0},
		{"one less than 2^62", end - 3, 1, 0, end - 2},
		{"2^62", end - 1, 1, 0, end},
		{"2^62 by the skew", 0, 0, end / 4, end},
		{"just below 2^62 by the skew", 3, 0, end/4 - 1, end - 1},
		{"just above 2^62 by the skew", 1, 0, end / 4, end},
		{"above 2^62", end, end, end, end},
		{"four times the skew wraps to 0", 6, 3, 1 << 62, end},
		{"four times the skew wraps below 0", 6, 3, 1 << 61, end},
		{"the greatest ints", math.MaxInt, math.MaxInt, math.MaxInt, end},
		{"one alone beyond", math.MaxInt, 0, 0, end},
		{"one beyond, and one below 0", math.MaxInt, math.MinInt, 0, end},
	} {
		c := changed(func(c *api.Conf) { c.Valid, c.TTL, c.Skew = r.valid, r.ttl, r.skew })
		if got := Quarantine(c); got != r.want {
			t.Errorf("%s: %d, not %d", r.name, got, r.want)
		}
		// It hangs on these three alone.
		if got := Quarantine(api.Conf{Valid: r.valid, TTL: r.ttl, Skew: r.skew}); got != r.want {
			t.Errorf("%s, of these alone: %d, not %d", r.name, got, r.want)
		}
	}
}

// wide is an int as a number, without bounds on what is made of it.
func wide(x int) *big.Int {
	return big.NewInt(int64(min(max(x, 0), end)))
}

func TestQuarantineExact(t *testing.T) {
	l := append(ints(), drawn(20)...)
	for i, valid := range l {
		for j, skew := range l {
			ttl := l[(i*7+j*3)%len(l)]
			sum := new(big.Int).Mul(big.NewInt(4), wide(skew))
			sum.Add(sum, wide(valid)).Add(sum, wide(ttl))
			want := end
			if sum.Cmp(big.NewInt(end)) < 0 {
				want = int(sum.Int64())
			}
			if got := Quarantine(api.Conf{Valid: valid, TTL: ttl, Skew: skew}); got != want {
				t.Errorf("of %d, %d and %d: %d, not %d", valid, ttl, skew, got, want)
			}
		}
	}
}

func TestKey(t *testing.T) {
	for _, r := range []struct {
		policy, name, want int
		err                api.Errno
	}{
		{0, 0, 0, api.OK}, {0, 5, 5, api.OK}, {0, 65535, 65535, api.OK}, {1, 0, 65536, api.OK}, {1, 5, 65541, api.OK},
		{3, 7, 196615, api.OK}, {7, 0, 458752, api.OK}, {7, 65534, 524286, api.OK}, {7, 65535, 524287, api.OK},
		{-1, 0, 0, api.ErrArg}, {-1, 65536, 0, api.ErrArg}, {8, 0, 0, api.ErrArg}, {8, 65535, 0, api.ErrArg}, {0, -1, 0, api.ErrArg}, {1, -1, 0, api.ErrArg},
		{0, 65536, 0, api.ErrArg}, {7, 65536, 0, api.ErrArg}, {-1, -1, 0, api.ErrArg}, {8, 65536, 0, api.ErrArg},
		{math.MinInt, 0, 0, api.ErrArg}, {0, math.MinInt, 0, api.ErrArg}, {math.MaxInt, 0, 0, api.ErrArg}, {0, math.MaxInt, 0, api.ErrArg}, {1 << 48, 0, 0, api.ErrArg},
	} {
		if got, err := Key(r.policy, r.name); got != r.want || err != r.err {
			t.Errorf("Key(%d, %d): %d, %d, not %d, %d", r.policy, r.name, got, err, r.want, r.err)
		}
	}
	for _, policy := range ints() {
		for _, name := range ints() {
			want, wrong := 0, api.ErrArg
			if policy >= 0 && policy <= 7 && name >= 0 && name <= 65535 {
				want, wrong = 65536*policy+name, api.OK
			}
			if got, err := Key(policy, name); got != want || err != wrong {
				t.Errorf("Key(%d, %d): %d, %d, not %d, %d", policy, name, got, err, want, wrong)
			}
		}
	}
}

func TestRight(t *testing.T) {
	for _, key := range append(ints(), drawn(50)...) {
		if got := Right(key); got != (key >= 0 && key <= 524287) {
			t.Errorf("Right(%d): %v", key, got)
		}
	}
}

// TestAllKeys: just those that Key tells are keys, each of one policy and one name.
func TestAllKeys(t *testing.T) {
	want := 0
	for policy := range 8 {
		for name := range 65536 {
			key, err := Key(policy, name)
			if key != want || err != api.OK || !Right(key) {
				t.Fatalf("Key(%d, %d): %d, %d, not %d", policy, name, key, err, want)
			}
			want++
		}
	}
	if Right(want) || Right(-1) {
		t.Error("there are more keys")
	}
}

func TestRate(t *testing.T) {
	c := rated(rates(3)...)
	none := api.Rate{}
	for _, r := range []struct {
		name string
		c    api.Conf
		key  int
		want api.Rate
		ok   bool
	}{
		{"of policy 0", rated(api.Rate{R: 2, B: 9}), 5, api.Rate{R: 2, B: 9}, true},
		{"the least key", rated(api.Rate{R: 2, B: 9}), 0, api.Rate{R: 2, B: 9}, true},
		{"the greatest name", rated(api.Rate{R: 2, B: 9}), 65535, api.Rate{R: 2, B: 9}, true},
		{"of policy 1, the least name", c, 65536, api.Rate{R: 1, B: 10}, true},
		{"of policy 2", c, 2*65536 + 77, api.Rate{R: 2, B: 20}, true},
		{"of policy 2, the greatest name", c, 3*65536 - 1, api.Rate{R: 2, B: 20}, true},
		{"of policy 3, which has none", c, 3 * 65536, none, false},
		{"of policy 7, which has none", c, 524287, none, false},
		{"of policy 7 of 8", rated(rates(8)...), 524287, api.Rate{R: 7, B: 70}, true},
		{"no key, of 9 rates", rated(rates(9)...), 524288, none, false},
		{"no key, of 100 rates", rated(rates(100)...), 9 * 65536, none, false},
		{"below 0", c, -1, none, false},
		{"below 0, of policy 0", c, -65535, none, false},
		{"the least int", c, math.MinInt, none, false},
		{"the greatest int", rated(rates(8)...), math.MaxInt, none, false},
		{"above the greatest by 2^32", rated(rates(8)...), 1 << 32, none, false},
		{"without rates", rated(), 0, none, false},
		{"of the zero configuration", api.Conf{}, 0, none, false},
		{"a rate of 0", rated(none), 3, none, true},
		{"a rate that may not be, as it is", rated(api.Rate{R: -4, B: math.MaxInt}), 3, api.Rate{R: -4, B: math.MaxInt}, true},
		{"of a configuration that may not be otherwise", api.Conf{Rates: rates(2)}, 65536, api.Rate{R: 1, B: 10}, true},
		{"behind the list's length", rated(rates(2)[:1]...), 65536, none, false},
	} {
		if got, ok := Rate(r.c, r.key); got != r.want || ok != r.ok {
			t.Errorf("%s: %v, %v, not %v, %v", r.name, got, ok, r.want, r.ok)
		}
	}
}

// TestRateOfEachPolicy: each key has its policy's rate, if there is one.
func TestRateOfEachPolicy(t *testing.T) {
	for k := range 9 {
		c := rated(rates(k)...)
		for policy := range 8 {
			for _, name := range []int{0, 1, 40000, 65535} {
				key, _ := Key(policy, name)
				want := api.Rate{}
				if policy < k {
					want = c.Rates[policy]
				}
				if got, ok := Rate(c, key); got != want || ok != (policy < k) {
					t.Errorf("of %d rates, that of policy %d: %v, %v", k, policy, got, ok)
				}
			}
		}
	}
}

func TestOwner(t *testing.T) {
	for _, r := range [][3]int{
		// n, the ballot, whose it is
		{5, 5, 0}, {5, 6, 1}, {5, 7, 2}, {5, 9, 4}, {5, 10, 0}, {5, 12, 2}, {4, 7, 3},
		{5, 0, -1}, {5, 1, -1}, {5, 4, -1}, {5, -1, -1}, {5, -5, -1}, {5, -8, -1}, {5, math.MinInt, -1},
		{1, 0, -1}, {1, 1, 0}, {1, 2, 0}, {1, most, 0}, {1, most + 1, -1},
		{2, 1, -1}, {2, 2, 0}, {2, 3, 1}, {2, most - 1, 1}, {2, most, 0}, {2, most + 1, -1},
		{3, 2, -1}, {3, 3, 0}, {3, most - 1, 0}, {3, most, 1}, {3, most + 1, -1},
		{64, 63, -1}, {64, 64, 0}, {64, 127, 63}, {64, 128, 0}, {64, most - 1, 63}, {64, most, 0}, {64, most + 1, -1}, {64, most + 63, -1},
		{63, most, 16}, {5, end, -1}, {5, math.MaxInt, -1},
		{0, 1, -1}, {0, 0, -1}, {-1, 1, -1}, {-5, 7, -1}, {65, 65, -1}, {65, 130, -1}, {128, 200, -1},
		{math.MinInt, 7, -1}, {math.MaxInt, 7, -1}, {math.MaxInt, math.MaxInt, -1}, {1<<32 + 1, 1 << 33, -1},
	} {
		if got := Owner(r[0], r[1]); got != r[2] {
			t.Errorf("Owner(%d, %d): %d, not %d", r[0], r[1], got, r[2])
		}
	}
}

// TestOwnerByRounds: who made a ballot of a round is told by it.
func TestOwnerByRounds(t *testing.T) {
	for n := 1; n <= 64; n++ {
		last := most / n
		for _, round := range []int{0, 1, 2, 3, 1000, last - 1, last, last + 1} {
			for node := range n {
				b := n*round + node
				want := node
				if round == 0 || b > most {
					want = -1
				}
				if got := Owner(n, b); got != want {
					t.Errorf("Owner(%d, %d): %d, not %d", n, b, got, want)
				}
			}
		}
	}
}

func TestNext(t *testing.T) {
	for _, r := range []struct {
		name           string
		n, above, node int
		want           int
		err            api.Errno
	}{
		{"ordinary", 5, 6, 2, 7, api.OK},
		{"of the next round", 5, 8, 2, 12, api.OK},
		{"above one of its own", 5, 7, 2, 12, api.OK},
		{"above one less than that", 5, 11, 2, 12, api.OK},
		{"above one more than that", 5, 12, 2, 17, api.OK},
		{"above 0", 5, 0, 2, 7, api.OK},
		{"above its number of round 0", 5, 2, 2, 7, api.OK},
		{"above what is just below round 1", 5, 4, 0, 5, api.OK},
		{"above the first of round 1", 5, 5, 0, 10, api.OK},
		{"above one below 0", 5, -1, 2, 7, api.OK},
		{"above one far below 0", 5, -1003, 2, 7, api.OK},
		{"above the least int", 5, math.MinInt, 4, 9, api.OK},
		{"above the least int and 1", 64, math.MinInt + 1, 63, 127, api.OK},
		{"of one node, above 0", 1, 0, 0, 1, api.OK},
		{"of one node, above below 0", 1, -7, 0, 1, api.OK},
		{"of one node", 1, 8, 0, 9, api.OK},
		{"of one node, 2^40", 1, most - 1, 0, most, api.OK},
		{"of one node, above 2^40", 1, most, 0, 0, api.ErrOver},
		{"of 64 nodes", 64, 200, 5, 261, api.OK},
		{"of 64 nodes, the last", 64, 64, 63, 127, api.OK},
		{"of 64 nodes, 2^40", 64, most - 1, 0, most, api.OK},
		{"of 64 nodes, 2^40, from its last one on", 64, most - 64, 0, most, api.OK},
		{"of 64 nodes, just below its last but one", 64, most - 65, 0, most - 64, api.OK},
		{"of 64 nodes, above 2^40", 64, most - 1, 1, 0, api.ErrOver},
		{"of 64 nodes, its last one", 64, most - 64, 1, most - 63, api.OK},
		{"of 64 nodes, above its last one", 64, most - 63, 1, 0, api.ErrOver},
		{"of 3 nodes, 2^40", 3, most - 3, 1, most, api.OK},
		{"of 3 nodes, above 2^40", 3, most - 1, 2, 0, api.ErrOver},
		{"of 3 nodes, one less than 2^40", 3, most - 2, 0, most - 1, api.OK},
		{"above 2^40", 5, most, 2, 0, api.ErrOver},
		{"above more than 2^40", 5, most + 1, 2, 0, api.ErrOver},
		{"above 2^62", 5, end, 2, 0, api.ErrOver},
		{"above the greatest int", 5, math.MaxInt, 2, 0, api.ErrOver},
		{"above the greatest int, 64 nodes", 64, math.MaxInt, 63, 0, api.ErrOver},
		{"above one less than the greatest int", 64, math.MaxInt - 1, 63, 0, api.ErrOver},
		{"no nodes", 0, 6, 0, 0, api.ErrArg},
		{"below 0 nodes", -5, 6, 2, 0, api.ErrArg},
		{"the least int nodes", math.MinInt, 6, 0, 0, api.ErrArg},
		{"65 nodes", 65, 6, 2, 0, api.ErrArg},
		{"the greatest int nodes", math.MaxInt, 6, 2, 0, api.ErrArg},
		{"node below 0", 5, 6, -1, 0, api.ErrArg},
		{"node far below 0", 5, 6, math.MinInt, 0, api.ErrArg},
		{"node n", 5, 6, 5, 0, api.ErrArg},
		{"node above n", 5, 6, 7, 0, api.ErrArg},
		{"node 64 of 64", 64, 6, 64, 0, api.ErrArg},
		{"the greatest int node", 64, 6, math.MaxInt, 0, api.ErrArg},
		{"no such node, and above 2^40", 5, most, 5, 0, api.ErrArg},
		{"no such n, and above 2^40", 65, math.MaxInt, 0, 0, api.ErrArg},
	} {
		if got, err := Next(r.n, r.above, r.node); got != r.want || err != r.err {
			t.Errorf("%s: %d, %d, not %d, %d", r.name, got, err, r.want, r.err)
		}
	}
}

// TestNextIsTheLeast: from each ballot on, those between it and the next one are others'.
func TestNextIsTheLeast(t *testing.T) {
	for _, n := range []int{1, 2, 3, 5, 63, 64} {
		for node := range n {
			for above := -3; above < 5*n; above++ {
				want := max(above, 0) + 1
				for Owner(n, want) != node && want <= above+3*n+3 {
					want++
				}
				if got, err := Next(n, above, node); got != want || err != api.OK {
					t.Fatalf("Next(%d, %d, %d): %d, %d, not %d", n, above, node, got, err, want)
				}
			}
		}
	}
}

// lastOf is a node's greatest ballot, looked for from 2^40 down.
func lastOf(n, node int) int {
	last := most
	for last%n != node {
		last--
	}
	return last
}

// TestNextNearTheEnd: up to 2^40 it is told, and from there on there is none.
func TestNextNearTheEnd(t *testing.T) {
	for _, n := range []int{1, 2, 3, 7, 33, 63, 64} {
		for node := range n {
			last := lastOf(n, node)
			for above := most - 3*n; above < most+3*n; above++ {
				got, err := Next(n, above, node)
				if above >= last {
					if got != 0 || err != api.ErrOver {
						t.Fatalf("Next(%d, %d, %d): %d, %d", n, above, node, got, err)
					}
				} else if err != api.OK || got <= above || got > above+n || got > most || got%n != node {
					t.Fatalf("Next(%d, %d, %d): %d, %d", n, above, node, got, err)
				}
			}
		}
	}
}

// TestAlwaysAnotherOne: P3.2, Next is above, and its own; two nodes never have one ballot.
func TestAlwaysAnotherOne(t *testing.T) {
	l := append(ints(), drawn(200)...)
	for n := 1; n <= 64; n++ {
		for _, above := range l {
			whose := map[int]int{}
			for node := range n {
				b, err := Next(n, above, node)
				if above >= lastOf(n, node) {
					if b != 0 || err != api.ErrOver {
						t.Errorf("Next(%d, %d, %d), of which there is none: %d, %d", n, above, node, b, err)
					}
					continue
				}
				if err != api.OK || b <= above || b > most || Owner(n, b) != node {
					t.Errorf("Next(%d, %d, %d): %d, %d, which is of %d", n, above, node, b, err, Owner(n, b))
				}
				if other, ok := whose[b]; ok {
					t.Errorf("of %d, above %d: %d is of %d and of %d", n, above, b, other, node)
				}
				whose[b] = node
			}
		}
	}
}

// TestNextByNext: P3.2, one above the other, each node has ballots of its own.
func TestNextByNext(t *testing.T) {
	for _, n := range []int{1, 2, 5, 64} {
		seen := map[int]int{}
		for node := range n {
			at := 0
			for range 50 {
				b, err := Next(n, at, node)
				if err != api.OK || b <= at || Owner(n, b) != node {
					t.Fatalf("of %d, behind %d of %d: %d, %d", n, at, node, b, err)
				}
				if other, ok := seen[b]; ok {
					t.Fatalf("of %d, %d is of %d and of %d", n, b, other, node)
				}
				seen[b] = node
				at = b
			}
		}
		// None is left out between the first of all and the last round.
		for b := n; b < 51*n; b++ {
			if _, ok := seen[b]; !ok {
				t.Errorf("of %d, %d is nobody's", n, b)
			}
		}
	}
}

// TestZeroBesideErrors: rule 2, with an error, or false, every other result is its zero value.
func TestZeroBesideErrors(t *testing.T) {
	l := ints()
	for _, a := range l {
		if r, ok := Rate(ordinary(), a); !ok && r != (api.Rate{}) {
			t.Errorf("Rate of %d: %v beside false", a, r)
		}
		for _, b := range l {
			if key, err := Key(a, b); err != api.OK && key != 0 {
				t.Errorf("Key(%d, %d): %d beside error %d", a, b, key, err)
			}
			for _, c := range l {
				if x, err := Next(a, b, c); err != api.OK && x != 0 {
					t.Errorf("Next(%d, %d, %d): %d beside error %d", a, b, c, x, err)
				}
			}
		}
	}
}

// TestLeftAsItWas: rule 4, what is handed in is neither written into nor kept.
func TestLeftAsItWas(t *testing.T) {
	whole := rates(9)
	was := slices.Clone(whole)
	for k := range 10 {
		c := changed(func(c *api.Conf) { c.Rates = whole[:k] })
		d := c
		Check(c)
		Same(c, d)
		Same(c, ordinary())
		Quarantine(c)
		for policy := range 8 {
			Rate(c, 65536*policy)
		}
		if !slices.Equal(whole, was) || len(c.Rates) != k {
			t.Fatalf("the rates are %v, and were %v", whole, was)
		}
	}
	c := ordinary()
	before, _ := Rate(c, 0)
	c.Rates[0] = api.Rate{R: 77, B: 78}
	if after, _ := Rate(c, 0); before != (api.Rate{R: 2, B: 9}) || after != (api.Rate{R: 77, B: 78}) {
		t.Errorf("the rates were kept: %v, and then %v", before, after)
	}
	if Same(c, ordinary()) {
		t.Error("the rates were kept: they are still the same")
	}
	c.Rates[0].R = -1
	if Check(c) != api.ErrRates {
		t.Error("the rates were kept: they still may be")
	}
}

// everyCall is what all calls tell at all kinds of arguments.
func everyCall() []int {
	var out []int
	bit := func(b bool) int {
		if b {
			return 1
		}
		return 0
	}
	l := ints()
	for _, a := range l {
		for _, f := range fields() {
			c := changed(func(c *api.Conf) { *f.at(c) = a })
			r, ok := Rate(c, a)
			out = append(out, int(Check(c)), bit(Same(c, ordinary())), Quarantine(c), r.R, r.B, bit(ok))
		}
		out = append(out, bit(Right(a)))
		for _, b := range l {
			key, err := Key(a, b)
			out = append(out, key, int(err), Owner(a, b))
			for _, c := range []int{math.MinInt, -1, 0, 3, 63, 64, math.MaxInt} {
				x, err := Next(a, b, c)
				out = append(out, x, int(err))
			}
		}
	}
	return out
}

// TestArgumentsAlone: P1, every call ends and none panics; P2, what it answers hangs on its arguments alone.
func TestArgumentsAlone(t *testing.T) {
	first := everyCall()
	if !slices.Equal(first, everyCall()) {
		t.Error("the same calls told something else")
	}
}
