package ledger

import (
	"fmt"
	"math"
	"slices"
	"testing"

	"annona/api"
)

// settled is a settlement, and what it must answer.
type settled struct {
	name             string
	t                api.Table
	key, node, spent int
	want             api.Table
	told             int
}

func checkSettled(t *testing.T, l []settled) {
	t.Helper()
	for _, x := range l {
		got, told := Settle(x.t, x.key, x.node, x.spent)
		checkTold(t, x.name, got, told, x.want, x.told)
	}
}

// around is a table with a row of key 5 between two others, each with leases of the same nodes.
func around(r api.Row) api.Table {
	return tableOf(10, rowOf(3, 1, 12, to(2, 2), to(4, 3)), r, rowOf(9, 2, 13, to(2, 5)))
}

// Settle: what is spent is told, and what is less is Avail again; nothing else of any row is changed.
func TestSettle(t *testing.T) {
	one := around(rowOf(5, 7, 14, to(2, 4)))
	checkSettled(t, []settled{
		{"nothing", one, 5, 2, 0, around(rowOf(5, 11, 14)), 0},
		{"a part", one, 5, 2, 1, around(rowOf(5, 10, 14)), 1},
		{"all but one", one, 5, 2, 3, around(rowOf(5, 8, 14)), 3},
		{"all", one, 5, 2, 4, around(rowOf(5, 7, 14)), 4},
		{"one more than there is", one, 5, 2, 5, around(rowOf(5, 7, 14)), 4},
		{"far more than there is", one, 5, 2, math.MaxInt, around(rowOf(5, 7, 14)), 4},
		{"2^62", one, 5, 2, end, around(rowOf(5, 7, 14)), 4},
		{"below 0: all of it", one, 5, 2, -1, around(rowOf(5, 7, 14)), 4},
		{"far below 0", one, 5, 2, math.MinInt, around(rowOf(5, 7, 14)), 4},
	})
}

// Settle: of several leases of a row only that node's goes.
func TestSettleOneOfSeveral(t *testing.T) {
	three := around(rowOf(5, 7, 14, to(0, 3), to(2, 4), to(63, 5)))
	checkSettled(t, []settled{
		{"the first", three, 5, 0, 1, around(rowOf(5, 9, 14, to(2, 4), to(63, 5))), 1},
		{"the middle", three, 5, 2, 1, around(rowOf(5, 10, 14, to(0, 3), to(63, 5))), 1},
		{"the last", three, 5, 63, 1, around(rowOf(5, 11, 14, to(0, 3), to(2, 4))), 1},
		{"all of the first", three, 5, 0, -1, around(rowOf(5, 7, 14, to(2, 4), to(63, 5))), 3},
	})
	firsts := four()
	firsts.Rows[1] = rowOf(5, 5, 12, to(0, 1), to(63, 3))
	lasts := four()
	lasts.Rows[2] = rowOf(65536, 6, 10)
	checkSettled(t, []settled{
		{"of one row", four(), 5, 2, 1, firsts, 1},
		{"of another one", four(), 65536, 2, 1, lasts, 1},
	})
}

// Settle: 0, and the table as it is, of a node with nothing Out, and of a key without a row.
func TestSettleNothing(t *testing.T) {
	three := around(rowOf(5, 7, 14, to(0, 3), to(2, 4), to(63, 5)))
	for _, spent := range []int{math.MinInt, -1, 0, 1, 9, math.MaxInt} {
		checkSettled(t, []settled{
			{"a node between", three, 5, 1, spent, three, 0},
			{"a node that has something of another key", three, 5, 4, spent, three, 0},
			{"a node below all", three, 5, -1, spent, three, 0},
			{"a node above all", three, 5, 64, spent, three, 0},
			{"a row with nothing Out", around(rowOf(5, 7, 14)), 5, 2, spent, around(rowOf(5, 7, 14)), 0},
			{"a key between", three, 4, 2, spent, three, 0},
			{"a key below all", three, -1, 2, spent, three, 0},
			{"a key above all", three, 65536, 2, spent, three, 0},
			{"no rows", tableOf(4), 5, 2, spent, tableOf(4), 0},
		})
	}
}

// Settle: amounts and Avail as numbers; a lease of 0 goes, and nothing was spent.
func TestSettleNumbers(t *testing.T) {
	l := []settled{}
	for _, spent := range []int{-1, 0, 1} {
		l = append(l, settled{"an amount of 0", around(rowOf(5, 7, 14, to(1, 1), to(2, 0))), 5, 2, spent, around(rowOf(5, 7, 14, to(1, 1))), 0},
			settled{"an amount of 0 alone", around(rowOf(5, 7, 14, to(2, 0))), 5, 2, spent, around(rowOf(5, 7, 14)), 0},
			settled{"an amount below 0", around(rowOf(5, 7, 14, to(2, -3))), 5, 2, spent, around(rowOf(5, 7, 14)), 0})
	}
	checkSettled(t, append(l,
		settled{"the greatest that may be", around(rowOf(5, span, 14, to(2, span))), 5, 2, 1, around(rowOf(5, 2*span-1, 14)), 1},
		settled{"Avail runs over", around(rowOf(5, end-2, 14, to(2, 4))), 5, 2, 1, around(rowOf(5, end, 14)), 1},
		settled{"Avail comes to 2^62", around(rowOf(5, end-3, 14, to(2, 4))), 5, 2, 1, around(rowOf(5, end, 14)), 1},
		settled{"Avail comes beside 2^62", around(rowOf(5, end-4, 14, to(2, 4))), 5, 2, 1, around(rowOf(5, end-1, 14)), 1},
		settled{"Avail below 0", around(rowOf(5, -6, 14, to(2, 4))), 5, 2, 1, around(rowOf(5, 3, 14)), 1},
		settled{"an amount of 2^62", around(rowOf(5, 0, 14, to(2, end))), 5, 2, math.MaxInt, around(rowOf(5, 0, 14)), end},
		settled{"an amount above 2^62", around(rowOf(5, 0, 14, to(2, end+9))), 5, 2, -1, around(rowOf(5, 0, 14)), end},
		settled{"an amount above 2^62, a part", around(rowOf(5, 0, 14, to(2, end+9))), 5, 2, end - 1, around(rowOf(5, 1, 14)), end - 1},
	))
}

// Settle: what a node has Out is out no more, also if several leases are its; leases whose nodes don't rise stay as they stood.
func TestSettleAnyOrder(t *testing.T) {
	odd := around(rowOf(5, 1, 14, to(9, 1), to(2, 3), to(-4, 2), to(2, 4), to(70, 6)))
	checkSettled(t, []settled{
		{"two of a node", odd, 5, 2, 5, around(rowOf(5, 3, 14, to(9, 1), to(-4, 2), to(70, 6))), 5},
		{"two of a node, all", odd, 5, 2, -1, around(rowOf(5, 1, 14, to(9, 1), to(-4, 2), to(70, 6))), 7},
		{"of no node that may be", odd, 5, -4, 1, around(rowOf(5, 2, 14, to(9, 1), to(2, 3), to(2, 4), to(70, 6))), 1},
		{"of none above", odd, 5, 70, 6, around(rowOf(5, 1, 14, to(9, 1), to(2, 3), to(-4, 2), to(2, 4))), 6},
	})
	twice := tableOf(1, rowOf(8, 1, 1), rowOf(5, 0, 2, to(2, 3)), rowOf(5, 9, 3, to(2, 9)), rowOf(1, 1, 1))
	checkSettled(t, []settled{{"the first row of the key", twice, 5, 2, 1, tableOf(1, rowOf(8, 1, 1), rowOf(5, 2, 2), rowOf(5, 9, 3, to(2, 9)), rowOf(1, 1, 1)), 1}})
}

// granted is a grant, and what it must answer.
type granted struct {
	name            string
	t               api.Table
	key, node, want int
	is              api.Table
	told            int
}

func checkGranted(t *testing.T, l []granted) {
	t.Helper()
	for _, x := range l {
		got, told := Grant(x.t, x.key, x.node, x.want)
		checkTold(t, x.name, got, told, x.is, x.told)
	}
}

// Grant: as much as want goes from Avail Out, but not more than there is; nothing else of any row is changed.
func TestGrant(t *testing.T) {
	l := around(rowOf(5, 7, 14))
	checkGranted(t, []granted{
		{"one", l, 5, 2, 1, around(rowOf(5, 6, 14, to(2, 1))), 1},
		{"less than Avail", l, 5, 2, 6, around(rowOf(5, 1, 14, to(2, 6))), 6},
		{"just Avail", l, 5, 2, 7, around(rowOf(5, 0, 14, to(2, 7))), 7},
		{"one more", l, 5, 2, 8, around(rowOf(5, 0, 14, to(2, 7))), 7},
		{"2^31", l, 5, 2, span, around(rowOf(5, 0, 14, to(2, 7))), 7},
		{"above 2^31", l, 5, 2, span + 1, around(rowOf(5, 0, 14, to(2, 7))), 7},
		{"above 2^62", l, 5, 2, math.MaxInt, around(rowOf(5, 0, 14, to(2, 7))), 7},
		{"nothing", l, 5, 2, 0, l, 0},
		{"below 0", l, 5, 2, -1, l, 0},
		{"far below 0", l, 5, 2, math.MinInt, l, 0},
	})
}

// Grant: never more than 2^31, however much there is.
func TestGrantMost(t *testing.T) {
	much := func(avail int, out ...api.Lease) api.Table { return around(rowOf(5, avail, 14, out...)) }
	checkGranted(t, []granted{
		{"2^31 of more", much(span + 9), 5, 2, span, much(9, to(2, span)), span},
		{"one above 2^31 of more", much(span + 9), 5, 2, span + 1, much(9, to(2, span)), span},
		{"all that is more", much(span + 9), 5, 2, math.MaxInt, much(9, to(2, span)), span},
		{"one less than 2^31", much(span + 9), 5, 2, span - 1, much(10, to(2, span-1)), span - 1},
		{"2^31 of just that", much(span), 5, 2, span + 1, much(0, to(2, span)), span},
		{"of one less than that", much(span - 1), 5, 2, span, much(0, to(2, span-1)), span - 1},
		{"of 2^62", much(end), 5, 2, span, much(end-span, to(2, span)), span},
		{"of more than 2^62", much(end + 9), 5, 2, 4, much(end-4, to(2, 4)), 4},
		{"of 0", much(0), 5, 2, 1, much(0), 0},
		{"of less than 0", much(-4), 5, 2, 1, much(-4), 0},
	})
}

// Grant: the nodes are from 0 to 63.
func TestGrantNodes(t *testing.T) {
	l := around(rowOf(5, 7, 14))
	for _, node := range []int{math.MinInt, -64, -1, 64, 65, math.MaxInt} {
		checkGranted(t, []granted{{fmt.Sprintf("node %d", node), l, 5, node, 3, l, 0}})
	}
	for node := range 64 {
		checkGranted(t, []granted{{fmt.Sprintf("node %d", node), l, 5, node, 3, around(rowOf(5, 4, 14, to(node, 3))), 3}})
	}
}

// Grant: 0, and the table as it is, of a node that has something Out, of a key without a row, and of no rows.
func TestGrantNothing(t *testing.T) {
	l := around(rowOf(5, 7, 14, to(0, 3), to(2, 4), to(63, 5)))
	odd := around(rowOf(5, 7, 14, to(9, 1), to(2, 0), to(1, 3)))
	checkGranted(t, []granted{
		{"the first of those that have", l, 5, 0, 1, l, 0},
		{"the middle one", l, 5, 2, 1, l, 0},
		{"the last one", l, 5, 63, 1, l, 0},
		{"one that has an amount of 0", odd, 5, 2, 1, odd, 0},
		{"one whose lease stands behind greater ones", odd, 5, 1, 1, odd, 0},
		{"a key between", l, 4, 1, 1, l, 0},
		{"a key below all", l, -1, 1, 1, l, 0},
		{"a key above all", l, 65536, 1, 1, l, 0},
		{"no rows", tableOf(4), 5, 1, 1, tableOf(4), 0},
		{"a key with another one's lease", l, 3, 4, 1, l, 0},
	})
}

// Grant: the lease stands among others by nodes, in the key's own row.
func TestGrantPlace(t *testing.T) {
	l := around(rowOf(5, 7, 14, to(3, 3), to(8, 4), to(20, 5)))
	checkGranted(t, []granted{
		{"ahead of all", l, 5, 0, 2, around(rowOf(5, 5, 14, to(0, 2), to(3, 3), to(8, 4), to(20, 5))), 2},
		{"just ahead of the first", l, 5, 2, 2, around(rowOf(5, 5, 14, to(2, 2), to(3, 3), to(8, 4), to(20, 5))), 2},
		{"just behind the first", l, 5, 4, 2, around(rowOf(5, 5, 14, to(3, 3), to(4, 2), to(8, 4), to(20, 5))), 2},
		{"between two", l, 5, 9, 2, around(rowOf(5, 5, 14, to(3, 3), to(8, 4), to(9, 2), to(20, 5))), 2},
		{"just ahead of the last", l, 5, 19, 2, around(rowOf(5, 5, 14, to(3, 3), to(8, 4), to(19, 2), to(20, 5))), 2},
		{"behind all", l, 5, 63, 2, around(rowOf(5, 5, 14, to(3, 3), to(8, 4), to(20, 5), to(63, 2))), 2},
	})
	first := four()
	first.Rows[0] = rowOf(3, 2, 13, to(7, 4))
	last := four()
	last.Rows[3] = rowOf(65541, 0, 20, to(7, 9))
	checkGranted(t, []granted{
		{"of the first row", four(), 3, 7, 4, first, 4},
		{"of the last row", four(), 65541, 7, 40, last, 9},
	})
	twice := tableOf(1, rowOf(8, 1, 1), rowOf(5, 4, 2), rowOf(5, 9, 3), rowOf(1, 1, 1))
	checkGranted(t, []granted{{"the first row of the key", twice, 5, 2, 6, tableOf(1, rowOf(8, 1, 1), rowOf(5, 0, 2, to(2, 4)), rowOf(5, 9, 3), rowOf(1, 1, 1)), 4}})
}

// Held: the keys of which a node has something Out, rising.
func TestHeld(t *testing.T) {
	l := tableOf(0,
		rowOf(1, 1, 1, to(2, 4)),
		rowOf(4, 1, 1, to(0, 1), to(2, 4), to(3, 1)),
		rowOf(6, 1, 1),
		rowOf(9, 1, 1, to(3, 2), to(7, 0)),
		rowOf(65540, 1, 1, to(2, 9), to(63, 1)),
	)
	odd := tableOf(0, rowOf(9, 1, 1, to(2, 4)), rowOf(-7, 1, 1, to(4, 4), to(2, 1)), rowOf(9, 1, 1, to(2, 3), to(-1, 3)), rowOf(4, 1, 1, to(2, 1), to(2, 1)))
	for _, x := range []struct {
		name string
		t    api.Table
		node int
		want []int
	}{
		{"several", l, 2, []int{1, 4, 65540}},
		{"two", l, 3, []int{4, 9}},
		{"one", l, 0, []int{4}},
		{"the last one", l, 63, []int{65540}},
		{"a lease of 0", l, 7, []int{9}},
		{"nothing", l, 1, nil},
		{"a node below all", l, -1, nil},
		{"a node above all", l, 64, nil},
		{"no rows", tableOf(0), 2, nil},
		{"rows with nothing Out", tableOf(0, rowOf(1, 1, 1), rowOf(2, 1, 1)), 0, nil},
		{"keys that don't rise, and one twice", odd, 2, []int{-7, 4, 9}},
		{"a node that may not be", odd, -1, []int{9}},
	} {
		if got := Held(x.t, x.node); !slices.Equal(got, x.want) {
			t.Errorf("%s: %v, not %v", x.name, got, x.want)
		}
	}
}

// The document's third example: R 2, B 9, nothing since 10: at 13 there are 6; 4 are lent, 3 are spent: 3 less than minted.
func TestExample(t *testing.T) {
	c := rated(8, 4, api.Rate{R: 2, B: 9})
	l, err := Mint(tableOf(10), 5, 13, c)
	checkTable(t, "minted", l, tableOf(10, rowOf(5, 6, 13)))
	if err != api.OK {
		t.Errorf("error %d", err)
	}
	l, told := Grant(l, 5, 1, 4)
	checkTold(t, "lent", l, told, tableOf(10, rowOf(5, 2, 13, to(1, 4))), 4)
	l, told = Settle(l, 5, 1, 3)
	checkTold(t, "spent", l, told, tableOf(10, rowOf(5, 3, 13)), 3)
}
