package ledger

import (
	"fmt"
	"math"
	"testing"

	"annona/api"
)

// four is an ordinary table: keys of two policies, of which some have something Out.
func four() api.Table {
	return tableOf(10,
		rowOf(3, 6, 13),
		rowOf(5, 2, 12, to(0, 1), to(2, 4), to(63, 3)),
		rowOf(65536, 0, 10, to(2, 7)),
		rowOf(65541, 9, 20),
	)
}

// Find: a key's row, wherever it stands.
func TestFindRow(t *testing.T) {
	l := four()
	for i, r := range l.Rows {
		got, there := Find(l, r.Key)
		checkRow(t, fmt.Sprintf("row %d", i), got, four().Rows[i])
		if !there {
			t.Errorf("row %d: there is none", i)
		}
	}
	one := tableOf(4, rowOf(0, 1, 5, to(1, 2)))
	got, there := Find(one, 0)
	checkRow(t, "key 0, the only one", got, rowOf(0, 1, 5, to(1, 2)))
	if !there {
		t.Error("key 0, the only one: there is none")
	}
}

// Find: a key without a row has its Key, Avail 0, Mark Start, and nothing Out.
func TestFindNone(t *testing.T) {
	empty := []api.Table{{}, tableOf(7), {Start: 10, Rows: []api.Row{}}, {Start: 10, Rows: four().Rows[:0]}, tableOf(-4), tableOf(end + 5), four()}
	for _, l := range empty {
		for _, key := range []int{math.MinInt, -1, 0, 2, 4, 6, 65535, 65537, 65542, 524287, 524288, math.MaxInt} {
			got, there := Find(l, key)
			checkRow(t, fmt.Sprintf("key %d of %v", key, l), got, rowOf(key, 0, l.Start))
			if there {
				t.Errorf("key %d of %v: there is one", key, l)
			}
		}
	}
}

// Find: a row is that with its key, whether the keys of a table rise or not; of several the first (rule 7); what lies behind the rows' length is none (rule 4).
func TestFindAnyOrder(t *testing.T) {
	l := tableOf(1, rowOf(9, 1, 1), rowOf(-3, 2, 2), rowOf(4, 3, 3), rowOf(9, 4, 4), rowOf(524288, 5, 5), rowOf(0, 6, 6))
	for _, x := range []struct{ key, avail int }{{9, 1}, {-3, 2}, {4, 3}, {524288, 5}, {0, 6}} {
		got, there := Find(l, x.key)
		checkRow(t, fmt.Sprintf("key %d", x.key), got, rowOf(x.key, x.avail, x.avail))
		if !there {
			t.Errorf("key %d: there is none", x.key)
		}
	}
	l.Rows = l.Rows[:5]
	if got, there := Find(l, 0); there || !sameRow(got, rowOf(0, 0, 1)) {
		t.Errorf("a row behind the length: %v", got)
	}
}

// Total: Avail, and all amounts that are Out, added as numbers.
func TestTotal(t *testing.T) {
	for _, x := range []struct {
		r    api.Row
		want int
	}{
		{api.Row{}, 0},
		{rowOf(3, 6, 13), 6},
		{api.Row{Avail: 6, Out: []api.Lease{}}, 6},
		{rowOf(5, 2, 12, to(0, 1)), 3},
		{rowOf(5, 0, 12, to(0, 1)), 1},
		{rowOf(5, 2, 12, to(0, 1), to(2, 4), to(63, 3)), 10},
		{rowOf(5, 2, 12, to(0, 0), to(1, 5)), 7},
		{rowOf(5, span, 12, to(0, span), to(1, span)), 3 * span},
		{rowOf(5, end-3, 12, to(0, 2)), end - 1},
		{rowOf(5, end-3, 12, to(0, 2), to(1, 1)), end},
		{rowOf(5, end-3, 12, to(0, 2), to(1, 2)), end},
		{rowOf(5, end, 12, to(0, end), to(1, end), to(2, end)), end},
		{rowOf(5, 1, 12, to(0, end), to(1, end)), end},
		{rowOf(5, math.MaxInt, 12), end},
		{rowOf(5, -4, 12), 0},
		{rowOf(5, -4, 12, to(0, 3)), 3},
		{rowOf(5, 4, 12, to(0, -3), to(1, 1)), 5},
		{rowOf(5, 4, 12, to(0, math.MinInt), to(1, math.MaxInt)), end},
		{api.Row{Avail: 1, Out: []api.Lease{to(0, 2), to(1, 4)}[:1]}, 3},
	} {
		if got := Total(x.r); got != x.want {
			t.Errorf("Total(%v): %d, not %d", x.r, got, x.want)
		}
	}
}

// looked is a row, how it is looked at, and what there must be.
type looked struct {
	name        string
	r           api.Row
	now         int
	rate        api.Rate
	avail, mark int
}

// looks are of key 3, in a table that mints since 10.
func looks() []looked {
	r := api.Rate{R: 2, B: 9}
	return []looked{
		{"by R times the time", rowOf(3, 1, 13), 15, r, 5, 15},
		{"by one tick", rowOf(3, 1, 13), 14, r, 3, 14},
		{"by what room there is", rowOf(3, 4, 13), 20, r, 9, 20},
		{"both are the same", rowOf(3, 3, 13), 16, r, 9, 16},
		{"one more than there is room", rowOf(3, 4, 13), 16, r, 9, 16},
		{"one less than there is room", rowOf(3, 2, 13), 16, r, 8, 16},
		{"what is Out takes room", rowOf(3, 1, 13, to(1, 2), to(4, 3)), 20, r, 4, 20},
		{"what is Out, and time is the lesser", rowOf(3, 1, 13, to(1, 2), to(4, 3)), 14, r, 3, 14},
		{"all is Out", rowOf(3, 0, 13, to(1, 9)), 20, r, 0, 20},
		{"more than B in total", rowOf(3, 2, 13, to(1, 9)), 20, r, 2, 20},
		{"more than B is Avail", rowOf(3, 12, 13), 20, r, 12, 20},
		{"there is B", rowOf(3, 9, 13), 20, r, 9, 20},
		{"a time at the Mark", rowOf(3, 1, 13), 13, r, 1, 13},
		{"a time ahead of the Mark", rowOf(3, 1, 13), 12, r, 1, 13},
		{"a time far ahead of the Mark", rowOf(3, 1, 13), math.MinInt, r, 1, 13},
		{"a time ahead of Start", rowOf(3, 1, 13), 5, r, 1, 13},
		{"nothing is minted in a tick", rowOf(3, 1, 13), 20, api.Rate{R: 0, B: 9}, 1, 20},
		{"there may be nothing", rowOf(3, 0, 13), 20, api.Rate{R: 2, B: 0}, 0, 20},
		{"a time of 2^62", rowOf(3, 1, 13), end, r, 9, end},
		{"a time above 2^62", rowOf(3, 1, 13), end + 7, r, 9, end + 7},
		{"the greatest int", rowOf(3, 1, 13), math.MaxInt, r, 9, math.MaxInt},
		{"a time above 2^62 behind 2^62 less 2", rowOf(3, 1, end-2), end + 7, r, 5, end + 7},
		{"a time above 2^62 behind 2^62", rowOf(3, 1, end), end + 7, r, 1, end + 7},
		{"a Mark above 2^62, and a time behind it", rowOf(3, 1, end+3), end + 4, r, 1, end + 4},
		{"a Mark above 2^62, and a time ahead of it", rowOf(3, 1, end+3), end + 2, r, 1, end + 3},
		{"R below 0", rowOf(3, 1, 13), 20, api.Rate{R: -2, B: 9}, 1, 20},
		{"B below 0", rowOf(3, 1, 13), 20, api.Rate{R: 2, B: -9}, 1, 20},
		{"R and B below 0", rowOf(3, 0, 13), 20, api.Rate{R: -2, B: -9}, 0, 20},
		{"the least R and B", rowOf(3, 4, 13), 20, api.Rate{R: math.MinInt, B: math.MinInt}, 4, 20},
		{"Avail below 0", rowOf(3, -5, 13), 15, r, 4, 15},
		{"Avail below 0, and room", rowOf(3, -5, 13), 20, r, 9, 20},
		{"Avail below 0, and something Out", rowOf(3, -5, 13, to(1, 4)), 20, r, 5, 20},
		{"Mark below 0: so long since 0", rowOf(3, 1, -5), 3, r, 7, 3},
		{"Mark and time below 0", rowOf(3, 1, -5), -2, r, 1, -2},
		{"Mark below 0, and a time ahead of it", rowOf(3, 1, -5), -7, r, 1, -5},
		{"R of 2^62", rowOf(3, 1, 13), 14, api.Rate{R: end, B: end}, end, 14},
		{"R above 2^62", rowOf(3, 1, 13), 14, api.Rate{R: end + 5, B: 9}, 9, 14},
		{"R beside 2^62, that runs over", rowOf(3, 1, 13), 20, api.Rate{R: end - 1, B: end - 1}, end - 1, 20},
		{"B above 2^62", rowOf(3, 1, 13), 20, api.Rate{R: 2, B: math.MaxInt}, 15, 20},
		{"B above 2^62, and room", rowOf(3, 1, 13), end, api.Rate{R: 2, B: math.MaxInt}, end, end},
		{"Avail one below 2^62", rowOf(3, end-1, 13), 20, api.Rate{R: 2, B: end}, end, 20},
		{"Avail beside 2^62", rowOf(3, end-9, 13), 15, api.Rate{R: 2, B: end - 2}, end - 5, 15},
		{"Avail above 2^62", rowOf(3, end+9, 13), 20, r, end, 20},
		{"what is Out runs over", rowOf(3, 1, 13, to(1, end), to(2, end)), 20, api.Rate{R: 2, B: end}, 1, 20},
		{"the greatest that may be", rowOf(3, 0, 10), 11, api.Rate{R: span, B: span}, span, 11},
	}
}

// Look: a key's row, minted at now; all else of it stays.
func TestLook(t *testing.T) {
	for _, x := range looks() {
		l := tableOf(10, rowOf(2, 7, 11), x.r, rowOf(4, 8, 12, to(1, 1)))
		checkRow(t, x.name, Look(l, 3, x.now, x.rate), rowOf(3, x.avail, x.mark, x.r.Out...))
	}
}

// Look: a key without a row is minted since Start.
func TestLookNone(t *testing.T) {
	for _, x := range []struct {
		name             string
		start, now       int
		avail, mark, key int
	}{
		{"some ticks", 10, 13, 6, 13, 3},
		{"one tick", 10, 11, 2, 11, 3},
		{"long since", 10, 300, 9, 300, 3},
		{"at Start", 10, 10, 0, 10, 3},
		{"ahead of Start", 10, 4, 0, 10, 3},
		{"since 0", 0, 2, 4, 2, 3},
		{"Start below 0: so long since 0", -5, 2, 4, 2, 3},
		{"above 2^62", end - 1, end + 8, 2, end + 8, 3},
		{"a key that may not be", 10, 13, 6, 13, -7},
	} {
		for _, l := range []api.Table{tableOf(x.start), tableOf(x.start, rowOf(1, 7, 400, to(1, 1)), rowOf(8, 7, 400))} {
			checkRow(t, x.name, Look(l, x.key, x.now, api.Rate{R: 2, B: 9}), rowOf(x.key, x.avail, x.mark))
		}
	}
}

// Look: each key's own row, of several.
func TestLookEach(t *testing.T) {
	want := []api.Row{rowOf(3, 9, 15), rowOf(5, 2, 15, to(0, 1), to(2, 4), to(63, 3)), rowOf(65536, 2, 15, to(2, 7)), rowOf(65541, 9, 20)}
	for i, r := range four().Rows {
		checkRow(t, fmt.Sprintf("row %d", i), Look(four(), r.Key, 15, api.Rate{R: 2, B: 9}), want[i])
	}
}

// Look against the plain reckoning, of any numbers.
func TestLookPlain(t *testing.T) {
	x := uint64(91)
	l := edges()
	of := func() int {
		switch draw(&x, 3) {
		case 0:
			return l[draw(&x, len(l))]
		case 1:
			return draw(&x, 30) - 5
		}
		return drawAny(&x)
	}
	for range 60000 {
		r := rowOf(1, of(), of())
		for node := range draw(&x, 4) {
			r.Out = append(r.Out, to(node, of()))
		}
		table := tableOf(of(), r)
		key, now, rate := draw(&x, 2), of(), api.Rate{R: of(), B: of()}
		p := plainOf(table)
		if got, want := Look(table, key, now, rate), p.look(key, now, rate); !sameRow(got, want) {
			t.Fatalf("Look(%v, %d, %d, %v): %v, not %v", table, key, now, rate, got, want)
		}
		if got, want := Total(r), p.at(1).total(); got != want {
			t.Fatalf("Total(%v): %d, not %d", r, got, want)
		}
	}
}
