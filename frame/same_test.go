package frame

import (
	"math"
	"reflect"
	"testing"

	"annona/api"
)

// where a thing stands: in a table, in a token beside its table, or in a frame beside its token.
type where int

const (
	inTable where = iota
	inToken
	inFrame
)

// difference is one thing, changed alone in an ordinary pass.
type difference struct {
	name   string
	in     where
	change func(f *api.Frame)
}

// differences are of each thing of a frame, and of each list's length.
func differences() []difference {
	row := func(f *api.Frame, i int) *api.Row { return &f.Token.Table.Rows[i] }
	return []difference{
		{"Kind", inFrame, func(f *api.Frame) { f.Kind = api.Beat }},
		{"a kind that there is not", inFrame, func(f *api.Frame) { f.Kind = -1 }},
		{"From", inFrame, func(f *api.Frame) { f.From++ }},
		{"To", inFrame, func(f *api.Frame) { f.To++ }},
		{"Gen", inFrame, func(f *api.Frame) { f.Gen++ }},
		{"Hop", inFrame, func(f *api.Frame) { f.Hop++ }},
		{"the lowest of Bits", inFrame, func(f *api.Frame) { f.Bits ^= 1 }},
		{"the highest of Bits", inFrame, func(f *api.Frame) { f.Bits ^= 1 << 63 }},
		{"Gen of the token", inToken, func(f *api.Frame) { f.Token.Gen++ }},
		{"Hop of the token", inToken, func(f *api.Frame) { f.Token.Hop++ }},
		{"the first stamp", inToken, func(f *api.Frame) { f.Token.Stamps[0]++ }},
		{"the last stamp", inToken, func(f *api.Frame) { f.Token.Stamps[3]++ }},
		{"two stamps the other way round", inToken, func(f *api.Frame) {
			f.Token.Stamps[0], f.Token.Stamps[2] = f.Token.Stamps[2], f.Token.Stamps[0]
		}},
		{"a stamp more", inToken, func(f *api.Frame) { f.Token.Stamps = append(f.Token.Stamps, 0) }},
		{"a stamp fewer", inToken, func(f *api.Frame) { f.Token.Stamps = f.Token.Stamps[:3] }},
		{"without the first stamp", inToken, func(f *api.Frame) { f.Token.Stamps = f.Token.Stamps[1:] }},
		{"no stamps", inToken, func(f *api.Frame) { f.Token.Stamps = nil }},
		{"Start", inTable, func(f *api.Frame) { f.Token.Table.Start++ }},
		{"the first Key", inTable, func(f *api.Frame) { row(f, 0).Key++ }},
		{"the last Key", inTable, func(f *api.Frame) { row(f, 2).Key++ }},
		{"the first Avail", inTable, func(f *api.Frame) { row(f, 0).Avail++ }},
		{"the last Avail", inTable, func(f *api.Frame) { row(f, 2).Avail++ }},
		{"the first Mark", inTable, func(f *api.Frame) { row(f, 0).Mark++ }},
		{"the last Mark", inTable, func(f *api.Frame) { row(f, 2).Mark++ }},
		{"the first Node", inTable, func(f *api.Frame) { row(f, 0).Out[0].Node++ }},
		{"the last Node of a row", inTable, func(f *api.Frame) { row(f, 0).Out[2].Node++ }},
		{"the last Node", inTable, func(f *api.Frame) { row(f, 2).Out[0].Node++ }},
		{"the first Amount", inTable, func(f *api.Frame) { row(f, 0).Out[0].Amount++ }},
		{"the last Amount of a row", inTable, func(f *api.Frame) { row(f, 0).Out[2].Amount++ }},
		{"the last Amount", inTable, func(f *api.Frame) { row(f, 2).Out[0].Amount++ }},
		{"a lease more", inTable, func(f *api.Frame) { row(f, 0).Out = append(row(f, 0).Out, api.Lease{}) }},
		{"a lease of a row that had none", inTable, func(f *api.Frame) { row(f, 1).Out = []api.Lease{{}} }},
		{"a lease fewer", inTable, func(f *api.Frame) { row(f, 0).Out = row(f, 0).Out[:2] }},
		{"no leases", inTable, func(f *api.Frame) { row(f, 2).Out = nil }},
		{"a row more", inTable, func(f *api.Frame) { f.Token.Table.Rows = append(f.Token.Table.Rows, api.Row{}) }},
		{"a row fewer", inTable, func(f *api.Frame) { f.Token.Table.Rows = f.Token.Table.Rows[:2] }},
		{"without the first row", inTable, func(f *api.Frame) { f.Token.Table.Rows = f.Token.Table.Rows[1:] }},
		{"two rows the other way round", inTable, func(f *api.Frame) {
			l := f.Token.Table.Rows
			l[0], l[1] = l[1], l[0]
		}},
		{"no rows", inTable, func(f *api.Frame) { f.Token.Table.Rows = nil }},
	}
}

// holdSame holds what all three tell of two, either way round.
func holdSame(t *testing.T, name string, a, b api.Frame, table, token, frame bool) {
	t.Helper()
	for _, x := range [][2]api.Frame{{a, b}, {b, a}} {
		if got := SameTable(x[0].Token.Table, x[1].Token.Table); got != table {
			t.Errorf("%s: SameTable is %t", name, got)
		}
		if got := SameToken(x[0].Token, x[1].Token); got != token {
			t.Errorf("%s: SameToken is %t", name, got)
		}
		if got := Same(x[0], x[1]); got != frame {
			t.Errorf("%s: Same is %t", name, got)
		}
	}
}

// TestSame: two that are the same, with other memory, and with one and the same.
func TestSame(t *testing.T) {
	l := append(frames(), api.Frame{}, api.Frame{Kind: -7, Gen: math.MinInt, Token: api.Token{Stamps: []int{math.MaxInt}}})
	for _, f := range l {
		holdSame(t, "another memory", f, copied(f), true, true, true)
		holdSame(t, "itself", f, f, true, true, true)
	}
}

// TestPartInOneThing: two that part in just one thing, for each thing; in a frame that may be, and in one that may not.
func TestPartInOneThing(t *testing.T) {
	wrong := ordinaryPass()
	wrong.Gen, wrong.Hop, wrong.Bits, wrong.From = -5, end, 77, 1000
	wrong.Token.Stamps[1], wrong.Token.Table.Rows[0].Key, wrong.Token.Table.Rows[0].Out[1].Amount = -9, math.MaxInt-1, 0
	for _, base := range []api.Frame{ordinaryPass(), wrong} {
		for _, d := range differences() {
			f := changed(base, d.change)
			holdSame(t, d.name, base, f, d.in != inTable, d.in == inFrame, false)
		}
	}
}

// TestAllPairs: of all that were changed in one thing, each is the same as itself alone.
func TestAllPairs(t *testing.T) {
	l := differences()
	for i, a := range l {
		for j, b := range l {
			f, g := changed(ordinaryPass(), a.change), changed(ordinaryPass(), b.change)
			if got := Same(f, g); got != (i == j) {
				t.Errorf("%s, and %s: Same is %t", a.name, b.name, got)
			}
		}
	}
}

// TestPartInOneNumber: in great tokens, wherever one number of a list is another one.
func TestPartInOneNumber(t *testing.T) {
	base := passOf(greatToken())
	var l []number
	l = append(l, tokenNumbers(base)...)
	inside := len(l)
	l = append(l, tableNumbers(base)...)
	f := copied(base)
	for i, n := range l {
		*n.at(&f)++
		holdSame(t, n.name, base, f, i < inside, false, false)
		*n.at(&f)--
	}
	holdSame(t, "as it was", base, f, true, true, true)
}

// TestEmptyLists: rule 6, nil and empty lists are the same, also one with things behind its length.
func TestEmptyLists(t *testing.T) {
	leases := [][]api.Lease{nil, {}, {{Node: 1, Amount: 1}}}
	var tokens []api.Token
	for _, s := range [][]int{nil, {}, {4}} {
		for _, out := range leases {
			tokens = append(tokens, api.Token{Gen: 3, Stamps: s[:0:len(s)], Table: api.Table{Rows: []api.Row{{Key: 4, Out: out[:0:len(out)]}}}})
		}
	}
	for _, a := range tokens {
		for _, b := range tokens {
			holdSame(t, "empty lists", passOf(a), passOf(b), true, true, true)
		}
	}
	rows := [][]api.Row{nil, {}, {{Key: 4}}}
	for _, x := range rows {
		for _, y := range rows {
			a, b := api.Token{Table: api.Table{Rows: x[:0:len(x)]}}, api.Token{Table: api.Table{Rows: y[:0:len(y)]}}
			holdSame(t, "empty rows", passOf(a), passOf(b), true, true, true)
		}
	}
	f := api.Frame{Token: api.Token{Stamps: []int{}, Table: api.Table{Rows: []api.Row{}}}}
	holdSame(t, "the zero frame", f, api.Frame{}, true, true, true)
}

// TestSameBehindLength: rule 4, what lies behind a list's length counts not.
func TestSameBehindLength(t *testing.T) {
	a, b := ordinaryPass(), ordinaryPass()
	a.Token.Stamps = append(a.Token.Stamps, 7)[:4]
	b.Token.Stamps = append(b.Token.Stamps, 8)[:4]
	a.Token.Table.Rows = append(a.Token.Table.Rows, api.Row{Key: 7})[:3]
	b.Token.Table.Rows = append(b.Token.Table.Rows, api.Row{Key: 8})[:3]
	a.Token.Table.Rows[1].Out = leases(5)[:0]
	holdSame(t, "things behind lists' lengths", a, b, true, true, true)
}

// tokens are of all kinds: such as may be, such as may not, nothing, nil and empty lists.
func tokens() []api.Token {
	l := []api.Token{
		{}, {Stamps: []int{}}, {Table: api.Table{Rows: []api.Row{}}}, {Table: api.Table{Rows: []api.Row{{}, {Out: []api.Lease{}}, {Out: leases(2)}}}},
		ordinaryToken(), leastToken(), greatToken(),
		{Gen: math.MinInt, Hop: math.MaxInt, Stamps: stamps(100), Table: api.Table{Start: -1, Rows: rows(40, 90)}},
	}
	seed := uint64(52)
	for range 40 {
		l = append(l, drawnToken(&seed))
	}
	return l
}

// writeInto writes into all that a token has, and behind its lists' lengths as far as their memory goes.
func writeInto(t api.Token) {
	for i := range t.Stamps {
		t.Stamps[i] = -77
	}
	for i := range t.Table.Rows {
		r := &t.Table.Rows[i]
		for j := range r.Out {
			r.Out[j] = api.Lease{Node: -77, Amount: -77}
		}
		behind := append(r.Out, api.Lease{Node: -78, Amount: -78})
		behind[len(behind)-1].Node = -79
		r.Key, r.Avail, r.Mark, r.Out = -77, -77, -77, leases(1)
	}
	moreStamps := append(t.Stamps, -78)
	moreStamps[len(moreStamps)-1] = -79
	moreRows := append(t.Table.Rows, api.Row{Key: -78})
	moreRows[len(moreRows)-1].Key = -79
}

// TestClone: the same, whatever it is; and whatever is written into one, the other stays.
func TestClone(t *testing.T) {
	for i, x := range tokens() {
		was := copied(passOf(x)).Token
		c, d := Clone(x), Clone(x)
		if !reflect.DeepEqual(x, was) {
			t.Fatalf("token %d: what was handed in is %v", i, x)
		}
		if !SameToken(c, was) || !SameToken(d, was) {
			t.Fatalf("token %d: %v, not %v", i, c, was)
		}
		writeInto(c)
		if !SameToken(x, was) || !SameToken(d, was) {
			t.Errorf("token %d: what was written into one is in another", i)
		}
		writeInto(x)
		if !SameToken(d, was) {
			t.Errorf("token %d: what was written into the first is in its clone", i)
		}
	}
}

// TestCloneEachList: of a clone each list alone is written into: stamps, rows, each row's leases.
func TestCloneEachList(t *testing.T) {
	was := greatToken()
	for name, write := range map[string]func(t api.Token){
		"stamps": func(t api.Token) { t.Stamps[63] = 5 },
		"rows":   func(t api.Token) { t.Table.Rows[15].Avail = 5 },
		"a row":  func(t api.Token) { t.Table.Rows[0] = api.Row{} },
		"list":   func(t api.Token) { t.Table.Rows[7].Out = nil },
		"leases": func(t api.Token) { t.Table.Rows[0].Out[63].Amount = 5 },
		"others": func(t api.Token) { t.Table.Rows[15].Out[0].Node = 5 },
	} {
		x := greatToken()
		c := Clone(x)
		write(c)
		if SameToken(c, was) || !SameToken(x, was) {
			t.Errorf("%s: written into the clone, and the token is another one", name)
		}
		x = greatToken()
		c = Clone(x)
		write(x)
		if SameToken(x, was) || !SameToken(c, was) {
			t.Errorf("%s: written into the token, and the clone is another one", name)
		}
	}
}

// TestCloneApart: rule 4, no two lists of a clone share memory, even if those of the token do.
func TestCloneApart(t *testing.T) {
	out := leases(3)
	c := Clone(api.Token{Stamps: []int{1}, Table: api.Table{Rows: []api.Row{{Key: 1, Out: out}, {Key: 2, Out: out}, {Key: 3, Out: out[:1]}}}})
	c.Table.Rows[0].Out[0].Amount = 5
	c.Table.Rows[2].Out = append(c.Table.Rows[2].Out, api.Lease{Node: 9, Amount: 9})
	if l := c.Table.Rows; l[1].Out[0].Amount != 100 || l[2].Out[0].Amount != 100 || l[1].Out[1].Node != 1 || l[0].Out[1].Node != 1 {
		t.Errorf("two lists share memory: %v", l)
	}
	if out[0].Amount != 100 || out[1].Node != 1 {
		t.Errorf("the token's leases are %v", out)
	}
}

// TestCloneBehindLength: rule 4, what lies behind a list's length is neither written into nor handed on.
func TestCloneBehindLength(t *testing.T) {
	wholeStamps, wholeRows, wholeOut := stamps(9), rows(9, 1), leases(9)
	wholeRows[0].Out = wholeOut[:2]
	x := api.Token{Stamps: wholeStamps[:2], Table: api.Table{Rows: wholeRows[:2]}}
	c := Clone(x)
	if len(c.Stamps) != 2 || len(c.Table.Rows) != 2 || len(c.Table.Rows[0].Out) != 2 {
		t.Fatalf("the clone is %v", c)
	}
	writeInto(c)
	wholeRows[0].Out = wholeOut
	want := rows(9, 1)
	want[0].Out = leases(9)
	if !reflect.DeepEqual(wholeStamps, stamps(9)) || !reflect.DeepEqual(wholeRows, want) {
		t.Errorf("what lay behind is %v, %v", wholeStamps, wholeRows)
	}
}
