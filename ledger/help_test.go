package ledger

import (
	"maps"
	"math"
	"math/big"
	"slices"
	"testing"

	"annona/api"
)

// By the documents' words: how great a number, a time, a rate, and a grant may be.
const (
	end  = 1 << 62
	span = 1 << 31
)

// rowOf is a row of these.
func rowOf(key, avail, mark int, out ...api.Lease) api.Row {
	return api.Row{Key: key, Avail: avail, Mark: mark, Out: out}
}

// tableOf is a table of these.
func tableOf(start int, rows ...api.Row) api.Table {
	return api.Table{Start: start, Rows: rows}
}

// to is a lease.
func to(node, amount int) api.Lease {
	return api.Lease{Node: node, Amount: amount}
}

// rated is a configuration of so many keys, with these rates.
func rated(keys, skew int, l ...api.Rate) api.Conf {
	return api.Conf{N: 5, Skew: skew, TTL: 3, Valid: 6, Loss: 20, Hear: 30, Keys: keys, Queue: 4, Rates: l}
}

func sameRow(a, b api.Row) bool {
	return a.Key == b.Key && a.Avail == b.Avail && a.Mark == b.Mark && slices.Equal(a.Out, b.Out)
}

func sameTable(a, b api.Table) bool {
	return a.Start == b.Start && slices.EqualFunc(a.Rows, b.Rows, sameRow)
}

// checkRow holds a row against what it must be.
func checkRow(t *testing.T, name string, got, want api.Row) {
	t.Helper()
	if !sameRow(got, want) {
		t.Errorf("%s: %v, not %v", name, got, want)
	}
}

// checkTable holds a table against what it must be.
func checkTable(t *testing.T, name string, got, want api.Table) {
	t.Helper()
	if !sameTable(got, want) {
		t.Errorf("%s: %v, not %v", name, got, want)
	}
}

// checkTold holds a table, and what is told beside it, against what they must be.
func checkTold(t *testing.T, name string, got api.Table, told int, want api.Table, must int) {
	t.Helper()
	checkTable(t, name, got, want)
	if told != must {
		t.Errorf("%s: %d is told, not %d", name, told, must)
	}
}

// edges are ints at and beside all bounds that the chapter names.
func edges() []int {
	return []int{
		math.MinInt, math.MinInt + 1, -end, -span, -2, -1, 0, 1, 2, 9, 62, 63, 64, 65535, 65536,
		span - 1, span, span + 1, end - 1, end, end + 1, math.MaxInt - 1, math.MaxInt,
	}
}

// draw is a fixed rule's next, below n: the same ones each time.
func draw(x *uint64, n int) int {
	*x = *x*6364136223846793005 + 1442695040888963407
	return int(*x >> 33 % uint64(n))
}

// drawAny is a fixed rule's next int, of any size and either sign.
func drawAny(x *uint64) int {
	*x = *x*6364136223846793005 + 1442695040888963407
	return int(*x) >> draw(x, 63)
}

// number is an int as a number, without bounds on what is made of it.
func number(x int) *big.Int {
	return asNumber(big.NewInt(int64(x)))
}

// asNumber is what was made of numbers, as one.
func asNumber(x *big.Int) *big.Int {
	switch most := big.NewInt(end); {
	case x.Sign() < 0:
		return new(big.Int)
	case x.Cmp(most) > 0:
		return most
	}
	return x
}

func plainAdd(a, b int) int {
	return int(asNumber(new(big.Int).Add(number(a), number(b))).Int64())
}

func plainLess(a, b int) int {
	return int(asNumber(new(big.Int).Sub(number(a), number(b))).Int64())
}

func plainTimes(a, b int) int {
	return int(asNumber(new(big.Int).Mul(number(a), number(b))).Int64())
}

// plain is a table by the words alone, of one in which no key and no node stands twice: rows by keys, and leases by nodes.
type plain struct {
	start int
	rows  map[int]plainRow
}

type plainRow struct {
	avail, mark int
	out         map[int]int
}

// plainOf is a table by the words.
func plainOf(t api.Table) plain {
	p := plain{start: t.Start, rows: map[int]plainRow{}}
	for _, r := range t.Rows {
		out := map[int]int{}
		for _, x := range r.Out {
			out[x.Node] = x.Amount
		}
		p.rows[r.Key] = plainRow{r.Avail, r.Mark, out}
	}
	return p
}

// row is a key's, as the package tells it.
func (p plain) row(key int) api.Row {
	r := p.at(key)
	var l []api.Lease
	for _, node := range slices.Sorted(maps.Keys(r.out)) {
		l = append(l, to(node, r.out[node]))
	}
	return rowOf(key, r.avail, r.mark, l...)
}

// table is it as the package tells it.
func (p plain) table() api.Table {
	t := tableOf(p.start)
	for _, key := range slices.Sorted(maps.Keys(p.rows)) {
		t.Rows = append(t.Rows, p.row(key))
	}
	return t
}

// at is a key's row by the words, whether it is there or not.
func (p plain) at(key int) plainRow {
	if r, ok := p.rows[key]; ok {
		return r
	}
	return plainRow{0, p.start, map[int]int{}}
}

func (r plainRow) total() int {
	sum := plainAdd(r.avail, 0)
	for _, x := range r.out {
		sum = plainAdd(sum, x)
	}
	return sum
}

// minted is a row minted at a time, by a rate.
func (r plainRow) minted(now int, rate api.Rate) plainRow {
	passed := plainTimes(rate.R, plainLess(now, r.mark))
	room := plainLess(rate.B, r.total())
	if passed < room {
		r.avail = plainAdd(r.avail, passed)
	} else {
		r.avail = plainAdd(r.avail, room)
	}
	if now > r.mark {
		r.mark = now
	}
	return r
}

// idle by the words.
func (r plainRow) idle(start, now, skew int, rate api.Rate) bool {
	nothingOut := len(r.out) == 0
	full := r.avail == rate.B
	fullAgain := plainTimes(rate.R, plainLess(r.mark, start)) >= rate.B
	behind := plainLess(now, plainTimes(2, skew)) < r.mark
	return nothingOut && full && fullAgain && !behind
}

// plainRate is a key's rate by the words.
func plainRate(c api.Conf, key int) (api.Rate, bool) {
	for policy, rate := range c.Rates[:min(8, len(c.Rates))] {
		if 65536*policy <= key && key < 65536*(policy+1) {
			return rate, true
		}
	}
	return api.Rate{}, false
}

func (p plain) look(key, now int, rate api.Rate) api.Row {
	looked := plain{p.start, map[int]plainRow{key: p.at(key).minted(now, rate)}}
	return looked.row(key)
}

func (p plain) mint(key, now int, c api.Conf) api.Errno {
	rate, ok := plainRate(c, key)
	if !ok {
		return api.ErrNone
	}
	if _, there := p.rows[key]; !there && len(p.rows) >= c.Keys {
		stay := map[int]plainRow{}
		for k, r := range p.rows {
			if own, ok := plainRate(c, k); !ok || !r.idle(p.start, now, c.Skew, own) {
				stay[k] = r
			}
		}
		if len(stay) >= c.Keys {
			return api.ErrFull
		}
		maps.DeleteFunc(p.rows, func(k int, _ plainRow) bool { _, stays := stay[k]; return !stays })
	}
	p.rows[key] = p.at(key).minted(now, rate)
	return api.OK
}

func (p plain) settle(key, node, spent int) int {
	r := p.at(key)
	amount, has := r.out[node]
	if !has {
		return 0
	}
	amount = plainAdd(amount, 0)
	if spent < 0 || spent > amount {
		spent = amount
	}
	delete(r.out, node)
	r.avail = plainAdd(r.avail, plainLess(amount, spent))
	p.rows[key] = r
	return spent
}

func (p plain) grant(key, node, want int) int {
	r, there := p.rows[key]
	_, has := r.out[node]
	if !there || has || node < 0 || node > 63 {
		return 0
	}
	amount := plainAdd(want, 0)
	for _, most := range []int{plainAdd(r.avail, 0), span} {
		if amount > most {
			amount = most
		}
	}
	if amount == 0 {
		return 0
	}
	r.avail = plainLess(r.avail, amount)
	r.out[node] = amount
	p.rows[key] = r
	return amount
}

func (p plain) held(node int) []int {
	var keys []int
	for key, r := range p.rows {
		if _, has := r.out[node]; has {
			keys = append(keys, key)
		}
	}
	slices.Sort(keys)
	return keys
}
