package frame

import (
	"math"
	"slices"
	"testing"

	"annona/api"
)

const (
	span   = 1 << 31
	most   = 1 << 40
	end    = 1 << 62
	topKey = 8*65536 - 1
)

// ints are ints at and beside all that the chapter names.
func ints() []int {
	return []int{
		math.MinInt, math.MinInt + 1, -end, -most, -span, -65, -64, -3, -2, -1,
		0, 1, 2, 3, 4, 15, 16, 17, 62, 63, 64, 65, 66, 127, 128,
		65535, 65536, topKey - 1, topKey, topKey + 1, span - 1, span, span + 1, 1 << 32, 1<<32 + 1,
		most - 1, most, most + 1, end - 2, end - 1, end, end + 1, end + 2, math.MaxInt - 1, math.MaxInt,
	}
}

// draw is a fixed rule's next, below n: the same ones each time.
func draw(x *uint64, n int) int {
	*x = *x*6364136223846793005 + 1442695040888963407
	return int((*x >> 11) % uint64(n))
}

// ordinaryToken is a token that may be, with new memory each time.
func ordinaryToken() api.Token {
	return api.Token{Gen: 7, Hop: 12, Stamps: []int{40, -1, 30, 35}, Table: api.Table{Start: 10, Rows: []api.Row{
		{Key: 3, Avail: 6, Mark: 13, Out: []api.Lease{{Node: 0, Amount: 4}, {Node: 2, Amount: 1}, {Node: 3, Amount: 9}}},
		{Key: 5, Avail: 0, Mark: 10},
		{Key: 65541, Avail: 2, Mark: 44, Out: []api.Lease{{Node: 1, Amount: 8}}},
	}}}
}

// leases are n leases that may be, of nodes from 0 on.
func leases(n int) []api.Lease {
	l := make([]api.Lease, n)
	for i := range l {
		l[i] = api.Lease{Node: i, Amount: 100 + i}
	}
	return l
}

// rows are n rows that may be, with as many leases each, in a table that mints since 10 at most.
func rows(n, out int) []api.Row {
	l := make([]api.Row, n)
	for i := range l {
		l[i] = api.Row{Key: 1000 * i, Avail: i, Mark: 10 + i, Out: leases(out)}
	}
	return l
}

// stamps are n stamps that may be.
func stamps(n int) []int {
	l := make([]int, n)
	for i := range l {
		l[i] = i - 1
	}
	return l
}

// greatToken has as much of all as there may be.
func greatToken() api.Token {
	return api.Token{Gen: most, Hop: most, Stamps: stamps(64), Table: api.Table{Start: 10, Rows: rows(16, 64)}}
}

// leastToken has as little of all as there may be.
func leastToken() api.Token {
	return api.Token{Gen: 1, Stamps: []int{-1}}
}

// passOf is a frame with a token.
func passOf(t api.Token) api.Frame {
	return api.Frame{Kind: api.Pass, From: 2, To: 3, Token: t}
}

func ordinaryPass() api.Frame { return passOf(ordinaryToken()) }

func ordinaryAck() api.Frame {
	return api.Frame{Kind: api.Ack, From: 3, To: 2, Gen: 7, Hop: 12}
}

func ordinaryElect() api.Frame {
	return api.Frame{Kind: api.Elect, From: 1, To: 4, Gen: 9, Bits: 0x8000000000000012}
}

func ordinaryBeat() api.Frame {
	return api.Frame{Kind: api.Beat, From: 63, To: 5}
}

// ordinary is one frame of each kind, with new memory each time.
func ordinary() []api.Frame {
	return []api.Frame{ordinaryPass(), ordinaryAck(), ordinaryElect(), ordinaryBeat()}
}

// frames are many that may be: of each kind, ordinary ones and those at the edges.
func frames() []api.Frame {
	l := ordinary()
	for _, t := range []api.Token{leastToken(), greatToken(), {Gen: most, Hop: 0, Stamps: []int{end - 1, 0, -1}, Table: api.Table{Start: end}}} {
		l = append(l, passOf(t))
	}
	for _, out := range []int{0, 1, 63, 64} {
		t := leastToken()
		t.Table.Rows = rows(1+out%5, out)
		l = append(l, passOf(t))
	}
	edge := leastToken()
	edge.Table = api.Table{Start: end, Rows: []api.Row{
		{Key: 0, Avail: span, Mark: end, Out: []api.Lease{{Node: 63, Amount: span}}},
		{Key: topKey, Avail: 0, Mark: end, Out: []api.Lease{{Node: 0, Amount: 1}, {Node: 63, Amount: 1}}},
	}}
	l = append(l, passOf(edge))
	for _, x := range [][2]int{{1, 0}, {1, most}, {most, 0}, {most, most}, {256, 65536}} {
		l = append(l, api.Frame{Kind: api.Ack, From: 0, To: 63, Gen: x[0], Hop: x[1]})
	}
	for _, x := range []uint64{0, 1, 1 << 62, 1<<62 + 1, 1 << 63, math.MaxUint64} {
		l = append(l, api.Frame{Kind: api.Elect, From: 63, To: 0, Gen: 1, Bits: x}, api.Frame{Kind: api.Elect, Gen: most, Bits: ^x})
	}
	return append(l, api.Frame{Kind: api.Beat}, api.Frame{Kind: api.Beat, From: 63, To: 63})
}

// drawnToken is a token that may be, by a fixed rule.
func drawnToken(seed *uint64) api.Token {
	t := api.Token{Gen: 1 + draw(seed, most), Hop: draw(seed, most+1)}
	for range 1 + draw(seed, 64) {
		t.Stamps = append(t.Stamps, draw(seed, end+1)-1)
	}
	t.Table.Start = draw(seed, 1000)
	key := -1
	for range draw(seed, 17) {
		key += 1 + draw(seed, 30000)
		r := api.Row{Key: key, Avail: draw(seed, span+1), Mark: t.Table.Start + draw(seed, 1000)}
		for node := draw(seed, 8); node < 64; node += 1 + draw(seed, 40) {
			r.Out = append(r.Out, api.Lease{Node: node, Amount: 1 + draw(seed, span)})
		}
		t.Table.Rows = append(t.Table.Rows, r)
	}
	return t
}

// drawnFrame is a frame that may be, by a fixed rule.
func drawnFrame(seed *uint64) api.Frame {
	f := api.Frame{Kind: api.Kind(draw(seed, 4)), From: draw(seed, 64), To: draw(seed, 64)}
	switch f.Kind {
	case api.Pass:
		f.Token = drawnToken(seed)
	case api.Ack:
		f.Gen, f.Hop = 1+draw(seed, most), draw(seed, most+1)
	case api.Elect:
		f.Gen, f.Bits = 1+draw(seed, most), uint64(draw(seed, end))<<11^uint64(draw(seed, end))
	}
	return f
}

// copied is a frame that shares nothing with f, made without Clone; empty lists stay what they are.
func copied(f api.Frame) api.Frame {
	if f.Token.Stamps != nil {
		f.Token.Stamps = append(make([]int, 0, len(f.Token.Stamps)), f.Token.Stamps...)
	}
	if f.Token.Table.Rows == nil {
		return f
	}
	l := make([]api.Row, len(f.Token.Table.Rows))
	for i, r := range f.Token.Table.Rows {
		l[i] = r
		if r.Out != nil {
			l[i].Out = append(make([]api.Lease, 0, len(r.Out)), r.Out...)
		}
	}
	f.Token.Table.Rows = l
	return f
}

// changed is f, changed, with new memory.
func changed(f api.Frame, change func(f *api.Frame)) api.Frame {
	f = copied(f)
	change(&f)
	return f
}

// number is one of a frame, with its bounds by the chapter's words.
type number struct {
	name        string
	at          func(f *api.Frame) *int
	least, most int
}

// rowNumbers are those of row i, of the frame f as it is.
func rowNumbers(f api.Frame, i int) []number {
	l := f.Token.Table.Rows
	least, top := 0, topKey
	if i > 0 {
		least = l[i-1].Key + 1
	}
	if i+1 < len(l) {
		top = l[i+1].Key - 1
	}
	out := []number{
		{"Key", func(f *api.Frame) *int { return &f.Token.Table.Rows[i].Key }, least, top},
		{"Avail", func(f *api.Frame) *int { return &f.Token.Table.Rows[i].Avail }, 0, span},
		{"Mark", func(f *api.Frame) *int { return &f.Token.Table.Rows[i].Mark }, f.Token.Table.Start, end},
	}
	for j := range l[i].Out {
		least, top := 0, 63
		if j > 0 {
			least = l[i].Out[j-1].Node + 1
		}
		if j+1 < len(l[i].Out) {
			top = l[i].Out[j+1].Node - 1
		}
		out = append(out,
			number{"Node", func(f *api.Frame) *int { return &f.Token.Table.Rows[i].Out[j].Node }, least, top},
			number{"Amount", func(f *api.Frame) *int { return &f.Token.Table.Rows[i].Out[j].Amount }, 1, span})
	}
	return out
}

// tableNumbers are those of a frame's table: Start up to the least Mark.
func tableNumbers(f api.Frame) []number {
	top := end
	for _, r := range f.Token.Table.Rows {
		top = min(top, r.Mark)
	}
	out := []number{{"Start", func(f *api.Frame) *int { return &f.Token.Table.Start }, 0, top}}
	for i := range f.Token.Table.Rows {
		out = append(out, rowNumbers(f, i)...)
	}
	return out
}

// tokenNumbers are those of a frame's token, but for its table's.
func tokenNumbers(f api.Frame) []number {
	out := []number{
		{"Gen of the token", func(f *api.Frame) *int { return &f.Token.Gen }, 1, most},
		{"Hop of the token", func(f *api.Frame) *int { return &f.Token.Hop }, 0, most},
	}
	for i := range f.Token.Stamps {
		out = append(out, number{"a stamp", func(f *api.Frame) *int { return &f.Token.Stamps[i] }, -1, end - 1})
	}
	return out
}

// frameNumbers are those of a frame itself, by its kind.
func frameNumbers(f api.Frame) []number {
	gen := number{"Gen", func(f *api.Frame) *int { return &f.Gen }, 0, 0}
	hop := number{"Hop", func(f *api.Frame) *int { return &f.Hop }, 0, 0}
	switch f.Kind {
	case api.Ack:
		gen.least, gen.most, hop.most = 1, most, most
	case api.Elect:
		gen.least, gen.most = 1, most
	}
	return []number{
		{"From", func(f *api.Frame) *int { return &f.From }, 0, 63},
		{"To", func(f *api.Frame) *int { return &f.To }, 0, 63},
		gen, hop,
	}
}

// tries are the values at which a number is tried.
func (n number) tries() []int {
	return append(ints(), n.least-1, n.least, n.least+1, n.most-1, n.most, n.most+1)
}

// mayBe tells whether a value is within a number's bounds.
func (n number) mayBe(x int) bool {
	return x >= n.least && x <= n.most
}

// hold holds what Right and Encode tell of a frame that may be, or may not.
func hold(t *testing.T, name string, f api.Frame, want bool) {
	t.Helper()
	if got := Right(f); got != want {
		t.Errorf("%s: Right is %t", name, got)
	}
	b, err := Encode(f)
	if want && (err != api.OK || !slices.Equal(b, plain(f))) {
		t.Errorf("%s: Encode is %v, error %d", name, b, err)
	}
	if !want && (err != api.ErrArg || len(b) != 0) {
		t.Errorf("%s: Encode is %v, error %d, not ErrArg", name, b, err)
	}
}

// plainNumber is x as eight bytes, the highest first, worked out by dividing.
func plainNumber(x uint64) []byte {
	l := make([]byte, 8)
	for i := 7; i >= 0; i-- {
		l[i] = byte(x % 256)
		x /= 256
	}
	return l
}

// plainBytes are many of these, one behind the other.
func plainBytes(l []uint64) []byte {
	var out []byte
	for _, x := range l {
		out = append(out, plainNumber(x)...)
	}
	return out
}

// plainNumbers are a frame's, by the chapter's table, whether it may be or not.
func plainNumbers(f api.Frame) []uint64 {
	l := []int{int(f.Kind), f.From, f.To}
	switch f.Kind {
	case api.Pass:
		t := f.Token
		l = append(l, t.Gen, t.Hop, len(t.Stamps))
		for _, x := range t.Stamps {
			l = append(l, x+1)
		}
		l = append(l, t.Table.Start, len(t.Table.Rows))
		for _, r := range t.Table.Rows {
			l = append(l, r.Key, r.Avail, r.Mark, len(r.Out))
			for _, x := range r.Out {
				l = append(l, x.Node, x.Amount)
			}
		}
	case api.Ack:
		l = append(l, f.Gen, f.Hop)
	case api.Elect:
		l = append(l, f.Gen, int(f.Bits))
	}
	out := make([]uint64, len(l))
	for i, x := range l {
		out[i] = uint64(x)
	}
	return out
}

// plain are a frame's bytes, by the chapter's table, whether it may be or not.
func plain(f api.Frame) []byte {
	return plainBytes(plainNumbers(f))
}
