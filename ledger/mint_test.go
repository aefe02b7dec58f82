package ledger

import (
	"fmt"
	"math"
	"testing"

	"annona/api"
)

// minted is a mint, and what it must answer.
type minted struct {
	name     string
	t        api.Table
	key, now int
	c        api.Conf
	want     api.Table
	err      api.Errno
}

func checkMinted(t *testing.T, l []minted) {
	t.Helper()
	for _, x := range l {
		got, err := Mint(x.t, x.key, x.now, x.c)
		checkTable(t, x.name, got, x.want)
		if err != x.err {
			t.Errorf("%s: error %d, not %d", x.name, err, x.err)
		}
	}
}

// Mint: a row that is there is minted where it stands, by its own rate, and all others stay.
func TestMintThere(t *testing.T) {
	c := rated(16, 0, api.Rate{R: 2, B: 9}, api.Rate{R: 1, B: 11})
	a, b, d, e := four().Rows[0], four().Rows[1], four().Rows[2], four().Rows[3]
	checkMinted(t, []minted{
		{"the first", four(), 3, 14, c, tableOf(10, rowOf(3, 8, 14), b, d, e), api.OK},
		{"the second, without room", four(), 5, 14, c, tableOf(10, a, rowOf(5, 2, 14, b.Out...), d, e), api.OK},
		{"the third, by its own rate", four(), 65536, 14, c, tableOf(10, a, b, rowOf(65536, 4, 14, d.Out...), e), api.OK},
		{"the last", four(), 65541, 21, c, tableOf(10, a, b, d, rowOf(65541, 10, 21)), api.OK},
		{"ahead of its Mark", four(), 65541, 19, c, four(), api.OK},
		{"the only one", tableOf(0, rowOf(0, 0, 0)), 0, 3, c, tableOf(0, rowOf(0, 6, 3)), api.OK},
	})
}

// Mint: a row that is not there is put in by keys, minted since Start.
func TestMintNew(t *testing.T) {
	c := rated(16, 0, api.Rate{R: 2, B: 9}, api.Rate{R: 1, B: 11})
	a, b, d, e := four().Rows[0], four().Rows[1], four().Rows[2], four().Rows[3]
	checkMinted(t, []minted{
		{"ahead of all", four(), 0, 13, c, tableOf(10, rowOf(0, 6, 13), a, b, d, e), api.OK},
		{"between two", four(), 4, 13, c, tableOf(10, a, rowOf(4, 6, 13), b, d, e), api.OK},
		{"between two others", four(), 65535, 13, c, tableOf(10, a, b, rowOf(65535, 6, 13), d, e), api.OK},
		{"ahead of the last, by its own rate", four(), 65540, 13, c, tableOf(10, a, b, d, rowOf(65540, 3, 13), e), api.OK},
		{"behind all", four(), 131071, 13, c, tableOf(10, a, b, d, e, rowOf(131071, 3, 13)), api.OK},
		{"of none", tableOf(10), 5, 13, c, tableOf(10, rowOf(5, 6, 13)), api.OK},
		{"of none, ahead of Start", tableOf(10), 5, 3, c, tableOf(10, rowOf(5, 0, 10)), api.OK},
		{"of none, above 2^62", tableOf(10), 5, end + 3, c, tableOf(10, rowOf(5, 9, end+3)), api.OK},
		{"nothing of it may be", tableOf(-3), 65536, 13, rated(1, 0, api.Rate{}, api.Rate{}), tableOf(-3, rowOf(65536, 0, 13)), api.OK},
	})
}

// Mint: ErrNone of a key without a rate, with the table as it is; ahead of a full table, and of all that is idle, and whether the key has a row or not.
func TestMintNone(t *testing.T) {
	full := tableOf(0, rowOf(0, 9, 50), rowOf(1, 9, 50), rowOf(131072, 9, 50))
	for _, c := range []api.Conf{rated(3, 0, api.Rate{R: 2, B: 9}, api.Rate{R: 2, B: 9}), rated(0, 0, api.Rate{R: 2, B: 9}, api.Rate{R: 2, B: 9}), rated(16, 0, api.Rate{R: 2, B: 9}, api.Rate{R: 2, B: 9})} {
		for _, key := range []int{math.MinInt, -65536, -1, 131072, 131073, 458752, 524287, 524288, math.MaxInt} {
			checkMinted(t, []minted{{fmt.Sprintf("key %d, %d Keys", key, c.Keys), full, key, 60, c, full, api.ErrNone}})
		}
	}
	checkMinted(t, []minted{
		{"no rates", tableOf(4), 0, 60, rated(16, 0), tableOf(4), api.ErrNone},
		{"a configuration of nothing", full, 0, 60, api.Conf{}, full, api.ErrNone},
		{"the last key with a rate", tableOf(4), 131071, 6, rated(3, 0, api.Rate{}, api.Rate{R: 1, B: 5}), tableOf(4, rowOf(131071, 2, 6)), api.OK},
	})
}

// parted is a row, in a table that mints since 10, and when it is looked at: idle, or not for one thing alone.
type parted struct {
	name      string
	r         api.Row
	now, skew int
	idle      bool
}

// parts are of a rate that mints 2 in a tick, and of which there may be 9: each thing that idle says, just so and one beside it.
func parts() []parted {
	return []parted{
		{"all just so", rowOf(1, 9, 15), 21, 3, true},
		{"all more than so", rowOf(1, 9, 40), 100, 3, true},
		{"without a skew", rowOf(1, 9, 15), 15, 0, true},
		{"without a skew, one below the Mark", rowOf(1, 9, 15), 14, 0, false},
		{"a list of nothing Out", api.Row{Key: 1, Avail: 9, Mark: 15, Out: []api.Lease{}}, 21, 3, true},
		{"something Out", rowOf(1, 9, 15, to(2, 1)), 21, 3, false},
		{"something Out, and B in total", rowOf(1, 8, 15, to(2, 1)), 21, 3, false},
		{"several Out", rowOf(1, 9, 15, to(2, 1), to(5, 4)), 21, 3, false},
		{"Avail one below B", rowOf(1, 8, 15), 21, 3, false},
		{"Avail one above B", rowOf(1, 10, 15), 21, 3, false},
		{"Avail 0", rowOf(1, 0, 15), 21, 3, false},
		{"R times the Mark less Start one below B", rowOf(1, 9, 14), 21, 3, false},
		{"R times the Mark less Start one above B", rowOf(1, 9, 15), 21, 3, true},
		{"the Mark at Start", rowOf(1, 9, 10), 21, 3, false},
		{"the Mark ahead of Start", rowOf(1, 9, 9), 21, 3, false},
		{"the time less twice the skew one below the Mark", rowOf(1, 9, 15), 20, 3, false},
		{"the time less once the skew at the Mark", rowOf(1, 9, 15), 18, 3, false},
		{"the time at the Mark", rowOf(1, 9, 15), 15, 3, false},
		{"the time ahead of the Mark", rowOf(1, 9, 15), 2, 3, false},
		{"a skew of one more", rowOf(1, 9, 15), 21, 4, false},
		{"a skew of one less", rowOf(1, 9, 15), 21, 2, true},
		{"a skew below 0", rowOf(1, 9, 15), 15, -3, true},
		{"a skew below 0, one below the Mark", rowOf(1, 9, 15), 14, -3, false},
		{"a skew that runs over", rowOf(1, 9, 15), math.MaxInt, end - 1, false},
		{"a time below twice the skew", rowOf(1, 9, 15), 40, 21, false},
		{"a time of 2^62", rowOf(1, 9, end-6), end, 3, true},
		{"a time of 2^62, one below the Mark", rowOf(1, 9, end-5), end, 3, false},
		{"a time above 2^62", rowOf(1, 9, end-6), end + 50, 3, true},
		{"a time above 2^62, one below the Mark", rowOf(1, 9, end-5), end + 50, 3, false},
		{"a time far below 0", rowOf(1, 9, 15), math.MinInt, 3, false},
	}
}

// Mint: a row that is idle goes for one that comes; one that isn't, for one thing alone, stays: ErrFull, with the table as it is.
func TestMintIdle(t *testing.T) {
	for _, x := range parts() {
		c := rated(1, x.skew, api.Rate{R: 2, B: 9}, api.Rate{R: 0, B: 0})
		l := tableOf(10, x.r)
		want := minted{x.name, l, 65536, x.now, c, l, api.ErrFull}
		if x.idle {
			want.want, want.err = tableOf(10, rowOf(65536, 0, max(10, x.now))), api.OK
		}
		checkMinted(t, []minted{want})
	}
}

// Mint: what R times the Mark less Start is, held against B just so and one beside it; also where it runs over, and where there may be nothing.
func TestMintIdleRates(t *testing.T) {
	for _, x := range []struct {
		rate     api.Rate
		avail    int
		from, to int
		idle     bool
	}{
		{api.Rate{R: 3, B: 9}, 9, 10, 13, true},
		{api.Rate{R: 3, B: 9}, 9, 10, 12, false},
		{api.Rate{R: 1, B: 1}, 1, 10, 11, true},
		{api.Rate{R: 1, B: 1}, 1, 10, 10, false},
		{api.Rate{R: 0, B: 0}, 0, 10, 10, true},
		{api.Rate{R: 5, B: 0}, 0, 10, 10, true},
		{api.Rate{R: 0, B: 1}, 1, 10, 1000, false},
		{api.Rate{R: 0, B: 1}, 0, 10, 1000, false},
		{api.Rate{R: span, B: span}, span, 10, 11, true},
		{api.Rate{R: span, B: span}, span, 10, 10, false},
		{api.Rate{R: span, B: span}, span, 10, end - 1, true},
		{api.Rate{R: span, B: span}, span, 0, end - 1, true},
		{api.Rate{R: 1, B: span}, span, 10, span + 10, true},
		{api.Rate{R: 1, B: span}, span, 10, span + 9, false},
		{api.Rate{R: -1, B: 1}, 1, 10, 100, false},
	} {
		c := rated(1, 0, x.rate, api.Rate{})
		l := tableOf(x.from, rowOf(7, x.avail, x.to))
		want := minted{fmt.Sprintf("%v", x), l, 65536, end, c, l, api.ErrFull}
		if x.idle {
			want.want, want.err = tableOf(x.from, rowOf(65536, 0, end)), api.OK
		}
		checkMinted(t, []minted{want})
	}
}

// Rows of a table that mints since 10, by the two rates below: idle at 60, or not.
func idleOf(key int) api.Row {
	if key < 65536 {
		return rowOf(key, 9, 20)
	}
	return rowOf(key, 4, 20)
}

func busyOf(key int) api.Row {
	return rowOf(key, 3, 20)
}

// Mint: with as many rows as Keys, or more, all idle ones are gone for a key without a row, by their own rates; with fewer, or if it has a row, none is.
func TestMintGone(t *testing.T) {
	two := []api.Rate{{R: 2, B: 9}, {R: 1, B: 4}}
	come := rowOf(5, 9, 60)
	all := tableOf(10, idleOf(1), idleOf(3), idleOf(65536), idleOf(65540))
	some := tableOf(10, idleOf(1), busyOf(3), busyOf(7), idleOf(65536), busyOf(65540))
	none := tableOf(10, busyOf(1), busyOf(65536), busyOf(65540))
	checkMinted(t, []minted{
		{"all, just as many as Keys", all, 5, 60, rated(4, 3, two...), tableOf(10, come), api.OK},
		{"all, more than Keys", all, 5, 60, rated(2, 3, two...), tableOf(10, come), api.OK},
		{"all, and one Key", all, 5, 60, rated(1, 3, two...), tableOf(10, come), api.OK},
		{"all, one fewer than Keys", all, 5, 60, rated(5, 3, two...), tableOf(10, idleOf(1), idleOf(3), come, idleOf(65536), idleOf(65540)), api.OK},
		{"all, and the key has a row", all, 3, 60, rated(4, 3, two...), tableOf(10, idleOf(1), rowOf(3, 9, 60), idleOf(65536), idleOf(65540)), api.OK},
		{"all, more than Keys, and the key has a row", all, 65540, 60, rated(2, 3, two...), tableOf(10, idleOf(1), idleOf(3), idleOf(65536), rowOf(65540, 4, 60)), api.OK},
		{"some, just as many as Keys", some, 5, 60, rated(5, 3, two...), tableOf(10, busyOf(3), come, busyOf(7), busyOf(65540)), api.OK},
		{"some, one more than Keys", some, 5, 60, rated(4, 3, two...), tableOf(10, busyOf(3), come, busyOf(7), busyOf(65540)), api.OK},
		{"some, one fewer than Keys", some, 5, 60, rated(6, 3, two...), tableOf(10, idleOf(1), busyOf(3), come, busyOf(7), idleOf(65536), busyOf(65540)), api.OK},
		{"some, and those that stay are as many as Keys", some, 5, 60, rated(3, 3, two...), some, api.ErrFull},
		{"some, and those that stay are more than Keys", some, 5, 60, rated(2, 3, two...), some, api.ErrFull},
		{"none, just as many as Keys", none, 5, 60, rated(3, 3, two...), none, api.ErrFull},
		{"none, more than Keys", none, 5, 60, rated(2, 3, two...), none, api.ErrFull},
		{"none, one fewer than Keys", none, 5, 60, rated(4, 3, two...), tableOf(10, busyOf(1), come, busyOf(65536), busyOf(65540)), api.OK},
		{"none, and the key has a row", none, 1, 21, rated(3, 3, two...), tableOf(10, rowOf(1, 5, 21), busyOf(65536), busyOf(65540)), api.OK},
		{"the last one goes for one ahead of it", tableOf(10, busyOf(3), idleOf(65540)), 1, 60, rated(2, 3, two...), tableOf(10, rowOf(1, 9, 60), busyOf(3)), api.OK},
		{"the first one goes for one behind all", tableOf(10, idleOf(1), busyOf(3)), 65540, 60, rated(2, 3, two...), tableOf(10, busyOf(3), rowOf(65540, 4, 60)), api.OK},
	})
}

// Mint: what is idle by another rate stays, and a row without a rate does, whatever it has.
func TestMintOwnRates(t *testing.T) {
	two := []api.Rate{{R: 2, B: 9}, {R: 1, B: 4}}
	swapped := tableOf(10, rowOf(1, 4, 20), rowOf(65536, 9, 20))
	odd := tableOf(10, rowOf(-1, 0, 10), rowOf(131072, 0, 20), rowOf(131073, 9, 20), rowOf(524288, 4, 20))
	checkMinted(t, []minted{
		{"each by the other one's rate", swapped, 5, 60, rated(2, 3, two...), swapped, api.ErrFull},
		{"rows without a rate", odd, 5, 60, rated(4, 3, two...), odd, api.ErrFull},
		{"rows without a rate, and an idle one", tableOf(10, idleOf(1), rowOf(131072, 0, 20)), 5, 60, rated(2, 3, two...), tableOf(10, rowOf(5, 9, 60), rowOf(131072, 0, 20)), api.OK},
	})
}

// Mint: Keys as the configuration has them, also such as may not be.
func TestMintKeys(t *testing.T) {
	two := []api.Rate{{R: 2, B: 9}, {R: 1, B: 4}}
	for _, keys := range []int{0, -1, math.MinInt} {
		checkMinted(t, []minted{
			{"no room, and no rows", tableOf(10), 5, 60, rated(keys, 0, two...), tableOf(10), api.ErrFull},
			{"no room, and an idle row", tableOf(10, idleOf(1)), 5, 60, rated(keys, 0, two...), tableOf(10, idleOf(1)), api.ErrFull},
			{"no room, and the key has a row", tableOf(10, idleOf(1)), 1, 60, rated(keys, 0, two...), tableOf(10, rowOf(1, 9, 60)), api.OK},
		})
	}
	for _, keys := range []int{15, 16, 17, 40, math.MaxInt} {
		for have := range 42 {
			l := tableOf(10)
			for key := range have {
				l.Rows = append(l.Rows, busyOf(2*key))
			}
			want := minted{fmt.Sprintf("%d rows, %d Keys", have, keys), l, 65536, 11, rated(keys, 0, two...), l, api.ErrFull}
			if have < keys {
				want.want, want.err = tableOf(10, append(l.Rows[:have:have], rowOf(65536, 1, 11))...), api.OK
			}
			checkMinted(t, []minted{want})
		}
	}
}
