package ledger

import (
	"math"
	"slices"
	"testing"

	"annona/api"
)

// spread is a table whose lists have room behind their lengths, in which lie rows and leases that would count if they were looked at.
func spread(t api.Table) api.Table {
	rows := make([]api.Row, 0, len(t.Rows)+3)
	for _, r := range t.Rows {
		out := slices.Concat(r.Out, []api.Lease{to(2, 5), to(0, 1), to(63, 9)})
		r.Out = out[:len(r.Out)]
		rows = append(rows, r)
	}
	rows = append(rows, rowOf(5, 8, 11, to(2, 3)), rowOf(0, 4, 10), rowOf(65536, 9, 12, to(2, 1)))
	t.Rows = rows[:len(t.Rows)]
	return t
}

// memory is all that a table's lists have, as far as their memory goes, as a copy.
func memory(t api.Table) api.Table {
	t.Rows = slices.Clone(t.Rows[:cap(t.Rows)])
	for i, r := range t.Rows {
		t.Rows[i].Out = slices.Clone(r.Out[:cap(r.Out)])
	}
	return t
}

// kept is a table, and what its memory was when it was told.
type kept struct {
	t   api.Table
	was api.Table
}

func keep(t api.Table) kept {
	return kept{t, memory(t)}
}

// act is a drawn call that tells another table, of keys and nodes that come up often.
func act(x *uint64, t api.Table) api.Table {
	keys := []int{0, 1, 3, 5, 7, 65536, 65537, 65541, 131072, -1}
	key, node := keys[draw(x, len(keys))], []int{0, 1, 2, 3, 62, 63, 64}[draw(x, 7)]
	c := rated(2+draw(x, 5), draw(x, 3), api.Rate{R: 2, B: 9}, api.Rate{R: 1, B: 20})
	switch draw(x, 3) {
	case 0:
		t, _ = Mint(t, key, draw(x, 60), c)
	case 1:
		t, _ = Settle(t, key, node, draw(x, 7)-1)
	default:
		t, _ = Grant(t, key, node, draw(x, 7))
	}
	return t
}

// Rules 3 and 4: whatever is called on a table, or on what was told of it, all stay as they were, also behind their lists' lengths.
func TestTablesStay(t *testing.T) {
	x := uint64(93)
	for range 60 {
		all := []kept{keep(spread(four())), keep(spread(tableOf(10))), keep(four())}
		for range 120 {
			of := all[draw(&x, len(all))].t
			next := act(&x, of)
			if draw(&x, 4) == 0 {
				next = spread(next)
			}
			all = append(all, keep(next))
			Find(of, 5)
			Look(of, 5, 40, api.Rate{R: 2, B: 9})
			Held(of, 2)
		}
		for i, k := range all {
			if now := memory(k.t); !sameTable(now, k.was) {
				t.Fatalf("table %d is %v, not %v", i, now, k.was)
			}
		}
	}
}

// Rule 4: what was told is new, whatever is written into its rows, and into the leases that were changed.
func TestToldIsNew(t *testing.T) {
	was := four()
	mint, _ := Mint(was, 5, 40, rated(9, 0, api.Rate{R: 2, B: 40}))
	put, _ := Mint(was, 6, 40, rated(9, 0, api.Rate{R: 2, B: 40}))
	gone, _ := Mint(was, 6, 40, rated(4, 0, api.Rate{R: 2, B: 6}, api.Rate{R: 1, B: 9}))
	settle, _ := Settle(was, 5, 2, 1)
	grant, _ := Grant(was, 5, 3, 1)
	for _, told := range []api.Table{settle, grant} {
		for i := range told.Rows[1].Out {
			told.Rows[1].Out[i] = to(-77, -77)
		}
	}
	for i, told := range []api.Table{mint, put, gone, settle, grant} {
		if sameTable(told, was) {
			t.Errorf("table %d is as it was", i)
		}
		for j := range told.Rows {
			told.Rows[j] = rowOf(-77, -77, -77)
		}
		checkTable(t, "the one that it is of", was, four())
	}
	a, b := Held(was, 2), Held(was, 2)
	a[0] = -77
	if was.Rows[1].Key != 5 || b[0] != 5 {
		t.Error("what is held shares memory")
	}
}

// Rule 4: what lies behind a list's length is not read.
func TestBehindLength(t *testing.T) {
	x := uint64(94)
	for range 4000 {
		bare, wide := four(), spread(four())
		for range 3 {
			seed := x
			bare, wide = act(&x, bare), act(&seed, wide)
			checkTable(t, "with room behind", wide, bare)
			wide = spread(wide)
		}
	}
	for node := range 64 {
		if a, b := Held(four(), node), Held(spread(four()), node); !slices.Equal(a, b) {
			t.Errorf("node %d holds %v, not %v", node, b, a)
		}
	}
	for i, r := range spread(four()).Rows {
		if a, b := Total(r), Total(four().Rows[i]); a != b {
			t.Errorf("row %d: %d, not %d", i, a, b)
		}
	}
	checkRow(t, "a row behind the length", Look(spread(tableOf(10)), 5, 13, api.Rate{R: 2, B: 9}), rowOf(5, 6, 13))
}

// odd are tables of all kinds, also such as may not be.
func odd() []api.Table {
	many := tableOf(1)
	for i := range 20 {
		r := rowOf(i%17, i, i)
		for j := range 70 {
			r.Out = append(r.Out, to(j%68-2, j))
		}
		many.Rows = append(many.Rows, r)
	}
	return []api.Table{
		{}, four(), many, tableOf(math.MinInt), tableOf(math.MaxInt),
		tableOf(math.MaxInt, rowOf(math.MaxInt, math.MaxInt, math.MinInt, to(math.MaxInt, math.MaxInt), to(math.MinInt, math.MaxInt))),
		tableOf(math.MinInt, rowOf(math.MinInt, math.MinInt, math.MaxInt, to(0, math.MinInt), to(0, math.MinInt)), rowOf(0, math.MaxInt, math.MaxInt, to(2, end))),
		tableOf(5, rowOf(9, 1, 1), rowOf(9, 2, 2), rowOf(0, 9, 3), rowOf(-1, 0, 0)),
	}
}

// heard is all that the calls tell of some arguments.
type heard struct {
	rows   []api.Row
	tables []api.Table
	nums   []int
}

// hear calls all with a table, and ints of which each is each argument.
func hear(t api.Table, a, b, d int) heard {
	var h heard
	c := api.Conf{N: d, Skew: a, Keys: b, Rates: []api.Rate{{R: a, B: b}, {R: d, B: a}}}
	r, _ := Find(t, a)
	l := Look(t, a, b, api.Rate{R: d, B: a})
	h.rows = append(h.rows, r, l, Look(t, b, d, api.Rate{R: a, B: d}))
	h.nums = append(h.nums, Total(r), Total(l))
	for _, key := range []int{a, d} {
		u, err := Mint(t, key, b, c)
		v, spent := Settle(t, key, b, d)
		w, amount := Grant(t, key, b, d)
		h.tables = append(h.tables, u, v, w)
		h.nums = append(h.nums, int(err), spent, amount)
	}
	h.nums = append(h.nums, Held(t, b)...)
	return h
}

func sameHeard(a, b heard) bool {
	return slices.EqualFunc(a.rows, b.rows, sameRow) && slices.EqualFunc(a.tables, b.tables, sameTable) && slices.Equal(a.nums, b.nums)
}

// P1, P2: each call ends, at all arguments, and tells the same again, whatever was called between.
func TestArgumentsAlone(t *testing.T) {
	x := uint64(95)
	ints := edges()
	of := func() int { return ints[draw(&x, len(ints))] }
	for i, l := range odd() {
		for range 150 {
			a, b, d := of(), of(), of()
			first := hear(l, a, b, d)
			hear(odd()[draw(&x, len(odd()))], of(), of(), of())
			if again := hear(l, a, b, d); !sameHeard(first, again) {
				t.Fatalf("table %d, %d, %d, %d: %v, and then %v", i, a, b, d, first, again)
			}
		}
	}
}

// drawnNumber is a number of any size, mostly small.
func drawnNumber(x *uint64) int {
	if draw(x, 8) > 0 {
		return draw(x, 30) - 2
	}
	l := edges()
	return l[draw(x, len(l))]
}

// drawnOdd is a table in which keys, and nodes, rise; all else is anything.
func drawnOdd(x *uint64) api.Table {
	t := tableOf(drawnNumber(x))
	for _, key := range []int{-1, 0, 1, 5, 65536, 65540, 131072} {
		if draw(x, 2) == 0 {
			continue
		}
		r := rowOf(key, drawnNumber(x), drawnNumber(x))
		for _, node := range []int{-1, 0, 2, 63, 64} {
			if draw(x, 4) == 0 {
				r.Out = append(r.Out, to(node, drawnNumber(x)))
			}
		}
		t.Rows = append(t.Rows, r)
	}
	return t
}

// All calls against the plain reckoning, one behind the other on drawn tables.
func TestActsPlain(t *testing.T) {
	x := uint64(96)
	counts := map[api.Errno]int{}
	some := 0
	for range 5000 {
		l := drawnOdd(&x)
		p := plainOf(l)
		for range 12 {
			keys := []int{-1, 0, 1, 4, 5, 65536, 65540, 65541, 131072}
			key, node, n := keys[draw(&x, len(keys))], []int{-1, 0, 1, 2, 63, 64}[draw(&x, 6)], drawnNumber(&x)
			c := rated(draw(&x, 9), draw(&x, 4)-1, api.Rate{R: draw(&x, 9), B: draw(&x, 28)}, api.Rate{R: drawnNumber(&x), B: draw(&x, 28)})
			before := l
			var got, want int
			switch draw(&x, 3) {
			case 0:
				var err api.Errno
				l, err = Mint(l, key, n, c)
				got, want = int(err), int(p.mint(key, n, c))
				counts[err]++
			case 1:
				l, got = Settle(l, key, node, n)
				want = p.settle(key, node, n)
				some += min(got, 1)
			default:
				l, got = Grant(l, key, node, n)
				want = p.grant(key, node, n)
				some += min(got, 1)
			}
			if got != want || !sameTable(l, p.table()) {
				t.Fatalf("of %v, key %d, node %d, %d, %v: %v and %d, not %v and %d", before, key, node, n, c, l, got, p.table(), want)
			}
			if got, want := Held(l, node), p.held(node); !slices.Equal(got, want) {
				t.Fatalf("%v, node %d: %v, not %v", l, node, got, want)
			}
		}
	}
	if counts[api.OK] < 1000 || counts[api.ErrFull] < 1000 || counts[api.ErrNone] < 1000 || some < 1000 {
		t.Errorf("only %v and %d of the drawn acts did something", counts, some)
	}
}
