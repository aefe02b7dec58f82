package visit

import (
	"maps"
	"math/big"
	"slices"

	"annona/api"
	"annona/edge"
	"annona/lease"
	"annona/queue"
)

// The plain reckoning: an edge, and a token, by the chapters' words alone, in no order, and without any package of the program's but for its structs.

// number is an int without bounds as a number.
func number(x *big.Int) int {
	switch {
	case x.Sign() < 0:
		return 0
	case x.Cmp(big.NewInt(end)) > 0:
		return end
	}
	return int(x.Int64())
}

// wide is an int as a number, without bounds on what is made of it.
func wide(x int) *big.Int {
	return big.NewInt(int64(number(big.NewInt(int64(x)))))
}

func plus(a, b int) int  { return number(new(big.Int).Add(wide(a), wide(b))) }
func minus(a, b int) int { return number(new(big.Int).Sub(wide(a), wide(b))) }
func times(a, b int) int { return number(new(big.Int).Mul(wide(a), wide(b))) }

// rateOf is a key's rate; false, if it has none.
func rateOf(c api.Conf, key int) (api.Rate, bool) {
	for i, r := range c.Rates {
		if i*policy <= key && key < i*policy+policy {
			return r, true
		}
	}
	return api.Rate{}, false
}

// entry is a request that waits, and the how-manieth that came it is.
type entry struct {
	item queue.Item
	came int
}

// plainEdge is an edge.
type plainEdge struct {
	c         api.Conf
	leases    map[int]lease.Lease
	entries   []entry
	came      int
	estimates map[int]int
}

func plainOf(c api.Conf) *plainEdge {
	return &plainEdge{c: c, leases: map[int]lease.Lease{}, estimates: map[int]int{}}
}

// spend spends of a key's lease: its generation; 0, if it has none of which so much is left.
func (p *plainEdge) spend(key, cost, now int) int {
	l, has := p.leases[key]
	if !has || now >= l.Until || l.Amount-l.Spent < cost {
		return 0
	}
	l.Spent += cost
	p.leases[key] = l
	return l.Gen
}

// turn are a key's entries, who is served first ahead.
func (p *plainEdge) turn(key int) []entry {
	var l []entry
	for _, x := range p.entries {
		if x.item.Key == key {
			l = append(l, x)
		}
	}
	slices.SortFunc(l, func(a, b entry) int {
		if a.item.Class != b.item.Class {
			return a.item.Class - b.item.Class
		}
		return a.came - b.came
	})
	return l
}

// goes takes an entry out.
func (p *plainEdge) goes(came int) {
	p.entries = slices.DeleteFunc(p.entries, func(x entry) bool { return x.came == came })
}

// ask is what a request that is not malformed is answered, at a reading that may be; nothing, if it waits.
func (p *plainEdge) ask(r api.Request, now int) []api.Answer {
	deny := func(why api.Reason) []api.Answer { return []api.Answer{{ID: r.ID, Reason: why}} }
	rate, has := rateOf(p.c, r.Key)
	if !has {
		return deny(api.Unknown)
	}
	if r.Cost > rate.B {
		return deny(api.OverBurst)
	}
	if len(p.turn(r.Key)) == 0 {
		if g := p.spend(r.Key, r.Cost, now); g > 0 {
			return []api.Answer{yes(r.ID, g)}
		}
	}
	if r.Wait == 0 {
		return deny(api.NoCredit)
	}
	if len(p.entries) == p.c.Queue {
		return deny(api.QueueFull)
	}
	p.came++
	x := queue.Item{ID: r.ID, Key: r.Key, Cost: r.Cost, Class: r.Class, Until: plus(now, r.Wait)}
	p.entries = append([]entry{{x, p.came}}, p.entries...)
	return nil
}

// expire answers who waited long enough, as they came.
func (p *plainEdge) expire(now int) []api.Answer {
	var out []api.Answer
	for came := range p.came + 1 {
		for _, x := range slices.Clone(p.entries) {
			if x.came == came && x.item.Until <= now {
				p.goes(came)
				out = append(out, api.Answer{ID: x.item.ID, Reason: api.Expired})
			}
		}
	}
	return out
}

// crash answers all, as they came, and forgets.
func (p *plainEdge) crash() []api.Answer {
	var out []api.Answer
	for _, x := range p.items() {
		out = append(out, api.Answer{ID: x.ID, Reason: api.Restarted})
	}
	*p = *plainOf(p.c)
	return out
}

// close ends a key's lease: what was spent, which is noted; -1, if there is none of that generation.
func (p *plainEdge) close(key, gen int) int {
	l, has := p.leases[key]
	delete(p.leases, key)
	if !has || l.Gen != gen {
		return -1
	}
	p.estimates[key] = max(l.Spent, p.estimates[key]/2)
	return l.Spent
}

// drop ends the leases of lesser generations.
func (p *plainEdge) drop(gen int) {
	for key, l := range p.leases {
		if l.Gen < gen {
			delete(p.leases, key)
		}
	}
}

// refuse answers all of a key, in turn.
func (p *plainEdge) refuse(key int) []api.Answer {
	var out []api.Answer
	for _, x := range p.turn(key) {
		p.goes(x.came)
		out = append(out, full(x.item.ID))
	}
	return out
}

// grant puts a lease, and serves its key.
func (p *plainEdge) grant(l lease.Lease, now int) []api.Answer {
	if _, has := p.leases[l.Key]; has {
		return nil
	}
	p.leases[l.Key] = l
	var out []api.Answer
	for _, x := range p.turn(l.Key) {
		g := p.spend(l.Key, x.item.Cost, now)
		if g == 0 {
			break
		}
		p.goes(x.came)
		out = append(out, yes(x.item.ID, g))
	}
	return out
}

// wanted is how much of a key is.
func (p *plainEdge) wanted(key int) int {
	sum := p.estimates[key]
	for _, x := range p.turn(key) {
		sum = plus(sum, x.item.Cost)
	}
	rate, _ := rateOf(p.c, key)
	return min(sum, rate.B)
}

// wants are all keys of which something is wanted, rising.
func (p *plainEdge) wants() []edge.Want {
	all := maps.Clone(p.estimates)
	for _, x := range p.entries {
		all[x.item.Key] = 0
	}
	var out []edge.Want
	for _, key := range slices.Sorted(maps.Keys(all)) {
		if n := p.wanted(key); n > 0 {
			out = append(out, edge.Want{Key: key, Amount: n})
		}
	}
	return out
}

// items are all that wait, as they came.
func (p *plainEdge) items() []queue.Item {
	l := slices.SortedFunc(slices.Values(p.entries), func(a, b entry) int { return a.came - b.came })
	var out []queue.Item
	for _, x := range l {
		out = append(out, x.item)
	}
	return out
}

// state is all that it has.
func (p *plainEdge) state() state {
	var l []lease.Lease
	for _, key := range slices.Sorted(maps.Keys(p.leases)) {
		l = append(l, p.leases[key])
	}
	return state{p.items(), l, p.wants()}
}

// plainRow is a key's row: what it has, and who holds how much.
type plainRow struct {
	avail, mark int
	out         map[int]int
}

// total is all that a row has.
func (r plainRow) total() int {
	sum := plus(r.avail, 0)
	for _, n := range r.out {
		sum = plus(sum, n)
	}
	return sum
}

// plainToken is a token's table, its place and its stamps.
type plainToken struct {
	gen, hop int
	stamps   []int
	start    int
	rows     map[int]plainRow
}

// plainly is a token as one, that shares nothing with it.
func plainly(t api.Token) *plainToken {
	p := &plainToken{gen: t.Gen, hop: t.Hop, stamps: slices.Clone(t.Stamps), start: t.Table.Start, rows: map[int]plainRow{}}
	for _, r := range t.Table.Rows {
		out := map[int]int{}
		for _, x := range r.Out {
			out[x.Node] = x.Amount
		}
		p.rows[r.Key] = plainRow{r.Avail, r.Mark, out}
	}
	return p
}

// token is it as the program's.
func (p *plainToken) token() api.Token {
	t := api.Token{Gen: p.gen, Hop: p.hop, Stamps: slices.Clone(p.stamps), Table: api.Table{Start: p.start}}
	for _, key := range slices.Sorted(maps.Keys(p.rows)) {
		r := p.rows[key]
		row := rowOf(key, r.avail, r.mark)
		for _, node := range slices.Sorted(maps.Keys(r.out)) {
			row.Out = append(row.Out, to(node, r.out[node]))
		}
		t.Table.Rows = append(t.Table.Rows, row)
	}
	return t
}

// valid tells whether a majority of the nodes stamped it not earlier than the reading less the span.
func (p *plainToken) valid(now, span int) bool {
	young := 0
	for _, x := range p.stamps {
		if x >= 0 && plus(x, span) >= now {
			young++
		}
	}
	return 2*young > len(p.stamps)
}

// at is a key's row; one with nothing, if it has none.
func (p *plainToken) at(key int) plainRow {
	if r, has := p.rows[key]; has {
		return r
	}
	return plainRow{0, p.start, map[int]int{}}
}

// idle tells whether a key's row is.
func (p *plainToken) idle(key, now int, c api.Conf) bool {
	r := p.rows[key]
	rate, has := rateOf(c, key)
	return has && len(r.out) == 0 && r.avail == rate.B && times(rate.R, minus(r.mark, p.start)) >= rate.B && minus(now, times(2, c.Skew)) >= r.mark
}

// mint mints a key's row: whether it has a rate, and whether there was room.
func (p *plainToken) mint(key, now int, c api.Conf) (rated, roomy bool) {
	rate, has := rateOf(c, key)
	if !has {
		return false, true
	}
	if _, has := p.rows[key]; !has && len(p.rows) >= c.Keys {
		stay := map[int]plainRow{}
		for k, r := range p.rows {
			if !p.idle(k, now, c) {
				stay[k] = r
			}
		}
		if len(stay) >= c.Keys {
			return true, false
		}
		p.rows = stay
	}
	r := p.at(key)
	r.avail = plus(r.avail, min(times(rate.R, minus(now, r.mark)), minus(rate.B, r.total())))
	r.mark = max(r.mark, now)
	p.rows[key] = r
	return true, true
}

// settle takes back what a node holds of a key, less what it spent.
func (p *plainToken) settle(key, node, spent int) {
	r := p.rows[key]
	if spent >= 0 && spent < r.out[node] {
		r.avail = plus(r.avail, r.out[node]-spent)
	}
	delete(r.out, node)
	p.rows[key] = r
}

// grant lends a node what it wants of a key, as far as there is so much.
func (p *plainToken) grant(key, node, want int) int {
	r, has := p.rows[key]
	n := min(want, r.avail, span)
	if !has || n <= 0 || r.out[node] > 0 {
		return 0
	}
	r.avail -= n
	r.out[node] = n
	p.rows[key] = r
	return n
}

// visit is what a node does with it.
func (p *plainToken) visit(e *plainEdge, node, now int, c api.Conf) []api.Answer {
	p.stamps[node] = now
	if !p.valid(now, c.Valid) {
		return nil
	}
	for _, key := range slices.Sorted(maps.Keys(p.rows)) {
		if p.rows[key].out[node] > 0 {
			p.mint(key, now, c)
			p.settle(key, node, e.close(key, p.gen))
		}
	}
	e.drop(p.gen)
	var out []api.Answer
	for _, w := range e.wants() {
		if _, roomy := p.mint(w.Key, now, c); !roomy {
			out = append(out, e.refuse(w.Key)...)
			continue
		}
		if n := p.grant(w.Key, node, w.Amount); n > 0 {
			out = append(out, e.grant(of(w.Key, p.gen, n, 0, plus(now, c.TTL)), now)...)
		}
	}
	return out
}
