package frame

import (
	"math"
	"slices"
	"strconv"
	"testing"

	"annona/api"
)

func TestLimits(t *testing.T) {
	for i, x := range [][2]int{{api.MaxNodes, 64}, {api.MaxSpan, span}, {api.MaxKeys, 16}, {api.MaxGen, most}, {api.MaxHop, most}, {api.Forever, end}, {int(api.Pass), 0}, {int(api.Ack), 1}, {int(api.Elect), 2}, {int(api.Beat), 3}} {
		if x[0] != x[1] {
			t.Errorf("limit %d is %d, not %d", i, x[0], x[1])
		}
	}
}

// TestMayBe: M1, what may be, of each kind, ordinary ones and those at the edges, and drawn ones.
func TestMayBe(t *testing.T) {
	l := frames()
	seed := uint64(51)
	for range 300 {
		l = append(l, drawnFrame(&seed))
	}
	for i, f := range l {
		hold(t, "frame "+strconv.Itoa(i), f, true)
		if f.Kind == api.Pass && (!Token(f.Token) || !Table(f.Token.Table)) {
			t.Errorf("frame %d: Token is %t, Table is %t", i, Token(f.Token), Table(f.Token.Table))
		}
	}
}

// TestNothing: the zero ones: a table with nothing may be, a token and a frame (a pass without a token) not.
func TestNothing(t *testing.T) {
	if !Table(api.Table{}) || !Table(api.Table{Rows: []api.Row{}}) {
		t.Error("a table without rows may be")
	}
	if Token(api.Token{}) {
		t.Error("a token with nothing may not be")
	}
	hold(t, "the zero frame", api.Frame{}, false)
}

// TestEachNumber: each number alone, at, beside and far from its bounds, the least and the greatest int too.
func TestEachNumber(t *testing.T) {
	bases := append(ordinary(), passOf(leastToken()), passOf(api.Token{Gen: 1, Stamps: []int{0}, Table: api.Table{Start: 10, Rows: rows(1, 1)}}))
	for _, base := range bases {
		for _, n := range frameNumbers(base) {
			for _, x := range n.tries() {
				f := changed(base, func(f *api.Frame) { *n.at(f) = x })
				hold(t, n.name, f, n.mayBe(x))
			}
		}
		if base.Kind != api.Pass {
			continue
		}
		for _, n := range tokenNumbers(base) {
			for _, x := range n.tries() {
				f := changed(base, func(f *api.Frame) { *n.at(f) = x })
				hold(t, n.name, f, n.mayBe(x))
				if Token(f.Token) != n.mayBe(x) || !Table(f.Token.Table) {
					t.Errorf("%s is %d: Token is %t, Table is %t", n.name, x, Token(f.Token), Table(f.Token.Table))
				}
			}
		}
		for _, n := range tableNumbers(base) {
			for _, x := range n.tries() {
				f := changed(base, func(f *api.Frame) { *n.at(f) = x })
				hold(t, n.name, f, n.mayBe(x))
				if Token(f.Token) != n.mayBe(x) || Table(f.Token.Table) != n.mayBe(x) {
					t.Errorf("%s is %d: Token is %t, Table is %t", n.name, x, Token(f.Token), Table(f.Token.Table))
				}
			}
		}
	}
}

// tableCase is a table, and whether it may be.
type tableCase struct {
	name string
	t    api.Table
	want bool
}

// row1 is a table since 10 with one row, changed.
func row1(change func(r *api.Row)) api.Table {
	l := rows(1, 2)
	change(&l[0])
	return api.Table{Start: 10, Rows: l}
}

// out1 is a table with one row with these leases.
func out1(l ...api.Lease) api.Table {
	return row1(func(r *api.Row) { r.Out = l })
}

// keyed is a table with rows with these keys.
func keyed(keys ...int) api.Table {
	var t api.Table
	for _, k := range keys {
		t.Rows = append(t.Rows, api.Row{Key: k})
	}
	return t
}

func startCases() []tableCase {
	return []tableCase{
		{"Start -1", api.Table{Start: -1}, false},
		{"Start 0", api.Table{}, true},
		{"Start 2^62", api.Table{Start: end}, true},
		{"Start above 2^62", api.Table{Start: end + 1}, false},
		{"the least Start", api.Table{Start: math.MinInt}, false},
		{"the greatest Start", api.Table{Start: math.MaxInt}, false},
		{"Start above 2^62, and a Mark", api.Table{Start: end + 1, Rows: []api.Row{{Mark: end + 1}}}, false},
		{"Start below 0, and a Mark", api.Table{Start: -1, Rows: []api.Row{{Mark: -1}}}, false},
		{"Mark just below Start", row1(func(r *api.Row) { r.Mark = 9 }), false},
		{"Mark at Start", row1(func(r *api.Row) { r.Mark = 10 }), true},
		{"Mark 0 of Start 0", api.Table{Rows: []api.Row{{}}}, true},
		{"Mark -1 of Start 0", api.Table{Rows: []api.Row{{Mark: -1}}}, false},
		{"Mark 2^62", row1(func(r *api.Row) { r.Mark = end }), true},
		{"Mark above 2^62", row1(func(r *api.Row) { r.Mark = end + 1 }), false},
		{"Mark and Start 2^62", api.Table{Start: end, Rows: []api.Row{{Mark: end}}}, true},
		{"Mark one below Start 2^62", api.Table{Start: end, Rows: []api.Row{{Mark: end - 1}}}, false},
	}
}

func rowCases() []tableCase {
	return []tableCase{
		{"15 rows", api.Table{Rows: rows(15, 0)}, true},
		{"16 rows", api.Table{Rows: rows(16, 0)}, true},
		{"17 rows", api.Table{Rows: rows(17, 0)}, false},
		{"500 rows", api.Table{Rows: rows(500, 0)}, false},
		{"16 of 17 rows", api.Table{Rows: rows(17, 0)[:16]}, true},
		{"none of 17 rows", api.Table{Rows: rows(17, 0)[:0]}, true},
		{"key -1", keyed(-1), false},
		{"key 0", keyed(0), true},
		{"the greatest key", keyed(topKey), true},
		{"above it", keyed(topKey + 1), false},
		{"above it, behind others", keyed(0, 1, topKey+1), false},
		{"the least int as a key", keyed(math.MinInt), false},
		{"keys rise", keyed(0, 1, 2, 65536, topKey), true},
		{"keys are equal", keyed(5, 5), false},
		{"keys 0 are equal", keyed(0, 0), false},
		{"keys fall", keyed(6, 5), false},
		{"the last two are equal", keyed(1, 2, 3, 3), false},
		{"the last one falls", keyed(1, 2, 3, 2), false},
		{"one falls, and rises again", keyed(1, 9, 4, 10), false},
		{"the first one is above the others", keyed(11, 9, 10), false},
		{"Avail -1", row1(func(r *api.Row) { r.Avail = -1 }), false},
		{"Avail 0", row1(func(r *api.Row) { r.Avail = 0 }), true},
		{"Avail 2^31", row1(func(r *api.Row) { r.Avail = span }), true},
		{"Avail above 2^31", row1(func(r *api.Row) { r.Avail = span + 1 }), false},
	}
}

func leaseCases() []tableCase {
	return []tableCase{
		{"no leases", out1(), true},
		{"an empty list of leases", out1([]api.Lease{}...), true},
		{"63 leases", out1(leases(63)...), true},
		{"64 leases", out1(leases(64)...), true},
		{"65 leases, up to node 64", out1(leases(65)...), false},
		{"65 leases, the last one twice", out1(append(leases(64), api.Lease{Node: 63, Amount: 1})...), false},
		{"65 leases, the first one twice", out1(append([]api.Lease{{Node: 0, Amount: 1}}, leases(64)...)...), false},
		{"65 leases, from node -1 on", out1(append([]api.Lease{{Node: -1, Amount: 1}}, leases(64)...)...), false},
		{"64 of 65 leases", out1(leases(65)[:64]...), true},
		{"1000 leases", out1(leases(1000)...), false},
		{"node -1", out1(api.Lease{Node: -1, Amount: 1}), false},
		{"node 0", out1(api.Lease{Node: 0, Amount: 1}), true},
		{"node 63", out1(api.Lease{Node: 63, Amount: 1}), true},
		{"node 64", out1(api.Lease{Node: 64, Amount: 1}), false},
		{"nodes are equal", out1(api.Lease{Node: 4, Amount: 1}, api.Lease{Node: 4, Amount: 2}), false},
		{"nodes 0 are equal", out1(api.Lease{Amount: 1}, api.Lease{Amount: 1}), false},
		{"nodes fall", out1(api.Lease{Node: 4, Amount: 1}, api.Lease{Node: 3, Amount: 1}), false},
		{"one falls, and rises again", out1(api.Lease{Node: 1, Amount: 1}, api.Lease{Node: 9, Amount: 1}, api.Lease{Node: 4, Amount: 1}, api.Lease{Node: 10, Amount: 1}), false},
		{"amount -1", out1(api.Lease{Node: 4, Amount: -1}), false},
		{"amount 0", out1(api.Lease{Node: 4}), false},
		{"amount 1", out1(api.Lease{Node: 4, Amount: 1}), true},
		{"amount 2^31", out1(api.Lease{Node: 4, Amount: span}), true},
		{"amount above 2^31", out1(api.Lease{Node: 4, Amount: span + 1}), false},
	}
}

// TestTableEdges: a table alone, in a token, and in a frame, at each edge.
func TestTableEdges(t *testing.T) {
	for _, c := range slices.Concat(startCases(), rowCases(), leaseCases()) {
		if got := Table(c.t); got != c.want {
			t.Errorf("%s: Table is %t", c.name, got)
		}
		token := api.Token{Gen: 1, Stamps: []int{3}, Table: c.t}
		if got := Token(token); got != c.want {
			t.Errorf("%s: Token is %t", c.name, got)
		}
		hold(t, c.name, passOf(token), c.want)
	}
}

// TestOneWrongRow: of 16 rows with 64 leases each, one alone is wrong, wherever it stands.
func TestOneWrongRow(t *testing.T) {
	for i := range 16 {
		for name, change := range map[string]func(r *api.Row){
			"Key":    func(r *api.Row) { r.Key = -1 },
			"Avail":  func(r *api.Row) { r.Avail = span + 1 },
			"Mark":   func(r *api.Row) { r.Mark = 9 },
			"Node":   func(r *api.Row) { r.Out[63].Node = 64 },
			"Amount": func(r *api.Row) { r.Out[i*4].Amount = 0 },
			"equal":  func(r *api.Row) { r.Out[i*4+1].Node = i * 4 },
		} {
			f := passOf(greatToken())
			change(&f.Token.Table.Rows[i])
			if Table(f.Token.Table) || Token(f.Token) {
				t.Errorf("%s of row %d: Table is %t, Token is %t", name, i, Table(f.Token.Table), Token(f.Token))
			}
			hold(t, name, f, false)
		}
	}
}

// TestTokenEdges: Gen, Hop and stamps, each with a table that may be, and one whose table may not.
func TestTokenEdges(t *testing.T) {
	for _, c := range []struct {
		name   string
		change func(t *api.Token)
		want   bool
	}{
		{"Gen 0", func(t *api.Token) { t.Gen = 0 }, false},
		{"Gen -1", func(t *api.Token) { t.Gen = -1 }, false},
		{"Gen 1", func(t *api.Token) { t.Gen = 1 }, true},
		{"Gen 2^40", func(t *api.Token) { t.Gen = most }, true},
		{"Gen above 2^40", func(t *api.Token) { t.Gen = most + 1 }, false},
		{"Hop -1", func(t *api.Token) { t.Hop = -1 }, false},
		{"Hop 0", func(t *api.Token) { t.Hop = 0 }, true},
		{"Hop 2^40", func(t *api.Token) { t.Hop = most }, true},
		{"Hop above 2^40", func(t *api.Token) { t.Hop = most + 1 }, false},
		{"nil stamps", func(t *api.Token) { t.Stamps = nil }, false},
		{"no stamps", func(t *api.Token) { t.Stamps = []int{} }, false},
		{"no stamps of some", func(t *api.Token) { t.Stamps = t.Stamps[:0] }, false},
		{"1 stamp", func(t *api.Token) { t.Stamps = stamps(1) }, true},
		{"63 stamps", func(t *api.Token) { t.Stamps = stamps(63) }, true},
		{"64 stamps", func(t *api.Token) { t.Stamps = stamps(64) }, true},
		{"65 stamps", func(t *api.Token) { t.Stamps = stamps(65) }, false},
		{"1000 stamps", func(t *api.Token) { t.Stamps = stamps(1000) }, false},
		{"a stamp of -2", func(t *api.Token) { t.Stamps = []int{-2} }, false},
		{"a stamp of -1", func(t *api.Token) { t.Stamps = []int{-1} }, true},
		{"a stamp of 2^62 less 1", func(t *api.Token) { t.Stamps = []int{end - 1} }, true},
		{"a stamp of 2^62", func(t *api.Token) { t.Stamps = []int{end} }, false},
		{"the last of 64 stamps is -2", func(t *api.Token) { t.Stamps = append(stamps(63), -2) }, false},
		{"the last of 64 stamps is 2^62", func(t *api.Token) { t.Stamps = append(stamps(63), end) }, false},
		{"a wrong stamp behind the list's length", func(t *api.Token) { t.Stamps = []int{4, -2}[:1] }, true},
		{"stamps in any order, and equal", func(t *api.Token) { t.Stamps = []int{5, 5, -1, 9, -1, 0} }, true},
	} {
		token := ordinaryToken()
		c.change(&token)
		if got := Token(token); got != c.want {
			t.Errorf("%s: Token is %t", c.name, got)
		}
		hold(t, c.name, passOf(token), c.want)
		for _, table := range []api.Table{{Start: -1}, keyed(6, 5), out1(api.Lease{Node: 4})} {
			token.Table = table
			if Token(token) {
				t.Errorf("%s, and a table that may not be: Token is true", c.name)
			}
			hold(t, c.name+", and a table that may not be", passOf(token), false)
		}
	}
}

// foreign are all things of a frame, each with the kinds that have it.
func foreign() []struct {
	name   string
	change func(f *api.Frame)
	kinds  []api.Kind
} {
	return []struct {
		name   string
		change func(f *api.Frame)
		kinds  []api.Kind
	}{
		{"Gen", func(f *api.Frame) { f.Gen = 1 }, []api.Kind{api.Ack, api.Elect}},
		{"Hop", func(f *api.Frame) { f.Hop = 1 }, []api.Kind{api.Ack}},
		{"Bits", func(f *api.Frame) { f.Bits = 1 }, []api.Kind{api.Elect}},
		{"the highest of Bits", func(f *api.Frame) { f.Bits = 1 << 63 }, []api.Kind{api.Elect}},
		{"Gen of a token", func(f *api.Frame) { f.Token.Gen = 1 }, []api.Kind{api.Pass}},
		{"Hop of a token", func(f *api.Frame) { f.Token.Hop = 1 }, []api.Kind{api.Pass}},
		{"a stamp", func(f *api.Frame) { f.Token.Stamps = []int{0} }, []api.Kind{api.Pass}},
		{"a stamp of none", func(f *api.Frame) { f.Token.Stamps = []int{-1} }, []api.Kind{api.Pass}},
		{"Start", func(f *api.Frame) { f.Token.Table.Start = 1 }, []api.Kind{api.Pass}},
		{"a row", func(f *api.Frame) { f.Token.Table.Rows = []api.Row{{Mark: 10}} }, []api.Kind{api.Pass}},
		{"a row with nothing", func(f *api.Frame) { f.Token.Table = api.Table{Rows: []api.Row{{}}} }, []api.Kind{api.Pass}},
		{"a token that may be", func(f *api.Frame) { f.Token = ordinaryToken() }, []api.Kind{api.Pass}},
		{"the least token", func(f *api.Frame) { f.Token = leastToken() }, []api.Kind{api.Pass}},
	}
}

// TestWhatAKindHasNot: of each kind, everything that it has not, set alone.
func TestWhatAKindHasNot(t *testing.T) {
	for _, base := range ordinary() {
		for _, c := range foreign() {
			hold(t, c.name, changed(base, c.change), slices.Contains(c.kinds, base.Kind))
		}
		empty := changed(base, func(f *api.Frame) { f.Token = api.Token{Stamps: []int{}, Table: api.Table{Rows: []api.Row{}}} })
		hold(t, "a token with empty lists", empty, base.Kind != api.Pass)
		behind := changed(base, func(f *api.Frame) {
			f.Token = api.Token{Stamps: stamps(3)[:0], Table: api.Table{Rows: rows(3, 1)[:0]}}
		})
		hold(t, "a token with things behind its lists' lengths", behind, base.Kind != api.Pass)
	}
}

// TestWhatAKindHas: of each kind, what it has, taken away alone.
func TestWhatAKindHas(t *testing.T) {
	hold(t, "a pass without a token", changed(ordinaryPass(), func(f *api.Frame) { f.Token = api.Token{} }), false)
	hold(t, "an ack without Gen", changed(ordinaryAck(), func(f *api.Frame) { f.Gen = 0 }), false)
	hold(t, "an ack without Hop", changed(ordinaryAck(), func(f *api.Frame) { f.Hop = 0 }), true)
	hold(t, "an elect without Gen", changed(ordinaryElect(), func(f *api.Frame) { f.Gen = 0 }), false)
	hold(t, "an elect without Bits", changed(ordinaryElect(), func(f *api.Frame) { f.Bits = 0 }), true)
}

// TestAnyBits: an elect has any bits.
func TestAnyBits(t *testing.T) {
	for i := range 64 {
		for _, x := range []uint64{1 << i, ^(uint64(1) << i), 1<<i - 1} {
			hold(t, "elect", changed(ordinaryElect(), func(f *api.Frame) { f.Bits = x }), true)
		}
	}
}

// TestNoSuchKind: a kind that there is not, with whatever another one has.
func TestNoSuchKind(t *testing.T) {
	for _, kind := range ints() {
		if kind >= 0 && kind <= 3 {
			continue
		}
		for _, f := range append(ordinary(), api.Frame{}, api.Frame{From: 1, To: 2}) {
			f.Kind = api.Kind(kind)
			if Right(f) {
				t.Errorf("a frame of kind %d may be", kind)
			}
			if b, err := Encode(f); len(b) != 0 || err != api.ErrArg {
				t.Errorf("a frame of kind %d: %v, error %d", kind, b, err)
			}
		}
	}
}

// TestAnotherKind: a frame of one kind, told to be of another one, has not what that has.
func TestAnotherKind(t *testing.T) {
	for _, f := range ordinary() {
		for kind := range api.Kind(4) {
			g := copied(f)
			g.Kind = kind
			hold(t, "as another kind", g, kind == f.Kind)
		}
	}
}

// TestFromAndTo: any two nodes, also one and the same.
func TestFromAndTo(t *testing.T) {
	for _, base := range ordinary() {
		for _, from := range ints() {
			for _, to := range ints() {
				f := changed(base, func(f *api.Frame) { f.From, f.To = from, to })
				hold(t, "From and To", f, from >= 0 && from <= 63 && to >= 0 && to <= 63)
			}
		}
	}
}
