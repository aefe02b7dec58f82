package token

import (
	"math"
	"math/big"
	"slices"
	"testing"

	"annona/api"
)

// By the documents' words: how great a number, a hop or a generation, and a span may be.
const (
	end  = 1 << 62
	most = 1 << 40
	span = 1 << 31
)

// stamped is a token of some place, with these stamps, and no rows.
func stamped(l ...int) api.Token {
	return api.Token{Gen: 7, Hop: 3, Stamps: l, Table: api.Table{Start: 2}}
}

// rowed is a token of two stamps, with these rows.
func rowed(l ...api.Row) api.Token {
	return api.Token{Gen: 7, Hop: 3, Stamps: []int{4, -1}, Table: api.Table{Start: 2, Rows: l}}
}

// rowOf is a row of these.
func rowOf(key, avail int, out ...api.Lease) api.Row {
	return api.Row{Key: key, Avail: avail, Mark: 8, Out: out}
}

// to is a lease.
func to(node, amount int) api.Lease {
	return api.Lease{Node: node, Amount: amount}
}

// full is a token that may be, of four nodes, with three rows and some leases.
func full() api.Token {
	return api.Token{Gen: 7, Hop: 3, Stamps: []int{40, -1, 30, 35}, Table: api.Table{Start: 2, Rows: []api.Row{
		rowOf(1, 5, to(0, 2), to(3, 4)), rowOf(5, 0), rowOf(65536, 9, to(2, 1)),
	}}}
}

// wrong is a token that may not be, in all that it has.
func wrong() api.Token {
	return api.Token{Gen: -7, Hop: -3, Stamps: []int{-9, end, 4, math.MinInt}, Table: api.Table{Start: -2, Rows: []api.Row{
		{Key: 5, Avail: -4, Mark: -1, Out: []api.Lease{to(70, -3), to(-1, 6)}}, {Key: 5, Avail: 9},
	}}}
}

func sameRow(a, b api.Row) bool {
	return a.Key == b.Key && a.Avail == b.Avail && a.Mark == b.Mark && slices.Equal(a.Out, b.Out)
}

func sameToken(a, b api.Token) bool {
	return a.Gen == b.Gen && a.Hop == b.Hop && slices.Equal(a.Stamps, b.Stamps) &&
		a.Table.Start == b.Table.Start && slices.EqualFunc(a.Table.Rows, b.Table.Rows, sameRow)
}

// checkToken holds a token against what it must be.
func checkToken(t *testing.T, name string, got, want api.Token) {
	t.Helper()
	if !sameToken(got, want) {
		t.Errorf("%s: %+v, not %+v", name, got, want)
	}
}

// checkTold holds a token, and the error beside it, against what they must be.
func checkTold(t *testing.T, name string, got api.Token, e api.Errno, want api.Token, must api.Errno) {
	t.Helper()
	checkToken(t, name, got, want)
	if e != must {
		t.Errorf("%s: %d is told, not %d", name, e, must)
	}
}

// edges are ints at and beside all bounds that the chapter names.
func edges() []int {
	return []int{
		math.MinInt, math.MinInt + 1, -end, -span, -2, -1, 0, 1, 2, 3, 4, 5, 62, 63, 64, 65, span,
		most - 1, most, most + 1, end - 1, end, end + 1, math.MaxInt - 1, math.MaxInt,
	}
}

// draw is a fixed rule's next, below n: the same ones each time.
func draw(x *uint64, n int) int {
	*x = *x*6364136223846793005 + 1442695040888963407
	return int(*x >> 33 % uint64(n))
}

// drawAny is a fixed rule's next int, of any size and either sign.
func drawAny(x *uint64) int {
	*x = *x*6364136223846793005 + 1442695040888963407
	return int(*x) >> draw(x, 63)
}

// drawNear is one of the edges, or an int not far from 0, or any.
func drawNear(x *uint64) int {
	switch draw(x, 4) {
	case 0:
		l := edges()
		return l[draw(x, len(l))]
	case 1:
		return drawAny(x)
	}
	return draw(x, 24) - 4
}

// drawStamps are as many stamps as are asked for, near one another now and then, so that they are equal at times.
func drawStamps(x *uint64, n int) []int {
	l := make([]int, 0, n)
	base := []int{0, 0, 0, 50, end - 20}[draw(x, 5)]
	for range n {
		switch draw(x, 8) {
		case 0, 1:
			l = append(l, -1-draw(x, 2))
		case 2:
			l = append(l, drawNear(x))
		default:
			l = append(l, base+draw(x, 18))
		}
	}
	return l
}

// drawToken is any token, mostly one that may not be.
func drawToken(x *uint64) api.Token {
	t := api.Token{Gen: drawNear(x), Hop: drawNear(x), Stamps: drawStamps(x, draw(x, 9)), Table: api.Table{Start: drawNear(x)}}
	for range draw(x, 4) {
		r := api.Row{Key: drawNear(x), Avail: drawNear(x), Mark: drawNear(x)}
		for range draw(x, 4) {
			r.Out = append(r.Out, to(draw(x, 66)-1, drawNear(x)))
		}
		t.Table.Rows = append(t.Table.Rows, r)
	}
	return t
}

// number is an int as a number, without bounds on what is made of it.
func number(x int) *big.Int {
	return asNumber(big.NewInt(int64(x)))
}

// asNumber is what was made of numbers, as one.
func asNumber(x *big.Int) *big.Int {
	switch greatest := big.NewInt(end); {
	case x.Sign() < 0:
		return new(big.Int)
	case x.Cmp(greatest) > 0:
		return greatest
	}
	return x
}

// majority is the least number that is more than half of n, by counting.
func majority(n int) int {
	m := 0
	for 2*m <= n {
		m++
	}
	return m
}

// plainUntil is until when a token with these stamps is valid, by the words; -1, if it never is.
func plainUntil(stamps []int, span int) int {
	var count []int
	for _, x := range stamps {
		if x >= 0 {
			count = append(count, x)
		}
	}
	slices.SortFunc(count, func(a, b int) int {
		if a > b {
			return -1
		}
		return 1
	})
	m := majority(len(stamps))
	if m == 0 || m > len(count) || len(stamps) == 0 {
		return -1
	}
	sum := new(big.Int).Add(number(count[m-1]), number(span))
	return int(asNumber(sum).Int64())
}

// plainValid tells by the words whether a token with these stamps is valid.
func plainValid(stamps []int, now, span int) bool {
	until := plainUntil(stamps, span)
	return until >= 0 && number(until).Cmp(number(now)) >= 0
}

// plainCredit is the sum of all that rows have, each number by itself.
func plainCredit(t api.Token) int {
	sum := new(big.Int)
	for _, r := range t.Table.Rows {
		sum.Add(sum, number(r.Avail))
		for _, x := range r.Out {
			sum.Add(sum, number(x.Amount))
		}
	}
	return int(asNumber(sum).Int64())
}
