package edge

import (
	"math/big"
	"slices"
	"testing"

	"annona/api"
	"annona/lease"
	"annona/queue"
)

// entry is a request that waits, and the how-manieth that came it is.
type entry struct {
	item queue.Item
	came int
}

// estimate is a key's.
type estimate struct{ key, amount int }

// plain is an edge by the words alone: leases, entries and estimates in no order.
type plain struct {
	c         api.Conf
	leases    []lease.Lease
	entries   []entry
	came      int
	estimates []estimate
}

// number is an int as a number, by the words of chapter 1.
func number(x *big.Int) int {
	switch {
	case x.Sign() < 0:
		return 0
	case x.Cmp(big.NewInt(end)) > 0:
		return end
	}
	return int(x.Int64())
}

// sum is numbers' sum, added without bounds, and then cut.
func sum(l ...int) int {
	sum := new(big.Int)
	for _, x := range l {
		sum.Add(sum, big.NewInt(int64(number(big.NewInt(int64(x))))))
	}
	return number(sum)
}

// burst is a key's B; -1, if it has no rate.
func (p *plain) burst(key int) int {
	for i, r := range p.c.Rates {
		if i*65536 <= key && key <= i*65536+65535 {
			return r.B
		}
	}
	return -1
}

// spend spends of a key's lease: its generation; 0, if it has none of which so much is left.
func (p *plain) spend(key, cost, now int) int {
	for i, l := range p.leases {
		if l.Key == key && now < l.Until && l.Spent+cost <= l.Amount {
			p.leases[i].Spent += cost
			return l.Gen
		}
	}
	return 0
}

// those are the entries of which it is so.
func (p *plain) those(so func(queue.Item) bool) []entry {
	var l []entry
	for _, e := range p.entries {
		if so(e.item) {
			l = append(l, e)
		}
	}
	return l
}

// inOrder picks again and again the one that no other one is less than.
func inOrder(l []entry, less func(a, b entry) bool) []queue.Item {
	l = slices.Clone(l)
	var out []queue.Item
	for len(l) > 0 {
		least := 0
		for i := range l {
			if less(l[i], l[least]) {
				least = i
			}
		}
		out = append(out, l[least].item)
		l = slices.Concat(l[:least], l[least+1:])
	}
	return out
}

// earlier tells whether a came ahead of b.
func earlier(a, b entry) bool {
	return a.came < b.came
}

// ahead tells whether a is served ahead of b, of one key.
func ahead(a, b entry) bool {
	if a.item.Class != b.item.Class {
		return a.item.Class < b.item.Class
	}
	return a.came < b.came
}

// ofKey are a key's items, the first one first.
func (p *plain) ofKey(key int) []queue.Item {
	return inOrder(p.those(func(x queue.Item) bool { return x.Key == key }), ahead)
}

// goes takes out those of which it is so.
func (p *plain) goes(so func(queue.Item) bool) {
	p.entries = p.those(func(x queue.Item) bool { return !so(x) })
}

// malformed tells whether a request is.
func (p *plain) malformed(r api.Request) bool {
	return r.Cost <= 0 || r.Class <= -1 || r.Class >= 3 || r.Wait <= -1 || r.Wait > 1<<40 || r.Key <= -1 || r.Key > 8*65536-1 ||
		len(p.those(func(x queue.Item) bool { return x.ID == r.ID })) > 0
}

// verdict is a request's answer; false, if it waits.
func (p *plain) verdict(r api.Request, now int) (api.Answer, bool) {
	if p.malformed(r) {
		return no(r.ID, api.Malformed), true
	}
	if now <= -1 || now > end-1 {
		return no(r.ID, api.NoCredit), true
	}
	if p.burst(r.Key) == -1 {
		return no(r.ID, api.Unknown), true
	}
	if r.Cost > p.burst(r.Key) {
		return no(r.ID, api.OverBurst), true
	}
	if len(p.ofKey(r.Key)) == 0 {
		if gen := p.spend(r.Key, r.Cost, now); gen > 0 {
			return yes(r.ID, gen), true
		}
	}
	if r.Wait == 0 {
		return no(r.ID, api.NoCredit), true
	}
	if len(p.entries) == p.c.Queue {
		return no(r.ID, api.QueueFull), true
	}
	return api.Answer{}, false
}

func (p *plain) ask(r api.Request, now int) []api.Answer {
	a, told := p.verdict(r, now)
	if told {
		return []api.Answer{a}
	}
	p.came++
	// Ahead of the others, so that what is told in order isn't so by itself.
	p.entries = append([]entry{{item(r, sum(now, r.Wait)), p.came}}, p.entries...)
	return nil
}

// at is where a key's lease stands; -1, if there is none.
func (p *plain) at(key int) int {
	return slices.IndexFunc(p.leases, func(l lease.Lease) bool { return l.Key == key })
}

func (p *plain) grant(l lease.Lease, now int) []api.Answer {
	if l.Gen <= 0 || l.Amount <= 0 || l.Spent != 0 || l.Until <= -1 || p.at(l.Key) >= 0 {
		return nil
	}
	p.leases = append([]lease.Lease{l}, p.leases...)
	var out []api.Answer
	for _, x := range p.ofKey(l.Key) {
		gen := p.spend(l.Key, x.Cost, now)
		if gen == 0 {
			break
		}
		p.goes(func(y queue.Item) bool { return x.ID == y.ID })
		out = append(out, yes(x.ID, gen))
	}
	return out
}

func (p *plain) close(key, gen int) int {
	i := p.at(key)
	if i < 0 {
		return -1
	}
	l := p.leases[i]
	p.leases = slices.Concat(p.leases[:i], p.leases[i+1:])
	if l.Gen != gen {
		return -1
	}
	p.note(key, l.Spent)
	return l.Spent
}

func (p *plain) note(key, n int) {
	for i, x := range p.estimates {
		if x.key == key {
			p.estimates[i].amount = max(sum(n), x.amount/2)
			return
		}
	}
	p.estimates = append(p.estimates, estimate{key, sum(n)})
}

func (p *plain) drop(gen int) {
	var stay []lease.Lease
	for _, l := range p.leases {
		if l.Gen >= gen {
			stay = append(stay, l)
		}
	}
	p.leases = stay
}

func (p *plain) expire(now int) []api.Answer {
	over := func(x queue.Item) bool { return !(x.Until > now) }
	l := inOrder(p.those(over), earlier)
	p.goes(over)
	return named(l, api.Expired)
}

func (p *plain) refuse(key int, why api.Reason) []api.Answer {
	l := p.ofKey(key)
	p.goes(func(x queue.Item) bool { return x.Key == key })
	return named(l, why)
}

func (p *plain) crash() []api.Answer {
	l := inOrder(p.entries, earlier)
	p.entries, p.leases, p.estimates = nil, nil, nil
	return named(l, api.Restarted)
}

// named are items' answers.
func named(l []queue.Item, why api.Reason) []api.Answer {
	var out []api.Answer
	for _, x := range l {
		out = append(out, no(x.ID, why))
	}
	return out
}

// wanted is how much of a key is.
func (p *plain) wanted(key int) int {
	var l []int
	for _, x := range p.ofKey(key) {
		l = append(l, x.Cost)
	}
	for _, x := range p.estimates {
		if x.key == key {
			l = append(l, x.amount)
		}
	}
	return min(sum(l...), p.burst(key))
}

// wants goes through all keys that anything is told of.
func (p *plain) wants() []Want {
	m := map[int]int{}
	for _, e := range p.entries {
		m[e.item.Key] = p.wanted(e.item.Key)
	}
	for _, x := range p.estimates {
		m[x.key] = p.wanted(x.key)
	}
	var l []Want
	for key, n := range m {
		if n > 0 {
			l = append(l, Want{key, n})
		}
	}
	slices.SortFunc(l, func(a, b Want) int {
		if a.Key < b.Key {
			return -1
		}
		return 1
	})
	return l
}

// state is what it has.
func (p *plain) state() state {
	l := slices.Clone(p.leases)
	slices.SortFunc(l, func(a, b lease.Lease) int {
		if a.Key < b.Key {
			return -1
		}
		return 1
	})
	return state{inOrder(p.entries, earlier), l, p.wants()}
}

// The acts.
const (
	toAsk = iota
	toGrant
	toClose
	toDrop
	toExpire
	toRefuse
	toCrash
	howMany
)

// act is something that is done with an edge; what is not of its kind is not looked at.
type act struct {
	how     int
	request api.Request
	lease   lease.Lease // of a closing, a dropping and a refusal its key, or its generation
	now     int
	why     api.Reason
}

// onEdge does it: what is answered, and what Close tells.
func (a act) onEdge(e *Edge) ([]api.Answer, int) {
	switch a.how {
	case toAsk:
		return e.Ask(a.request, a.now), 0
	case toGrant:
		return e.Grant(a.lease, a.now), 0
	case toClose:
		return nil, e.Close(a.lease.Key, a.lease.Gen)
	case toDrop:
		e.Drop(a.lease.Gen)
		return nil, 0
	case toExpire:
		return e.Expire(a.now), 0
	case toRefuse:
		return e.Refuse(a.lease.Key, a.why), 0
	}
	return e.Crash(), 0
}

// onPlain does it with the plain one.
func (a act) onPlain(p *plain) ([]api.Answer, int) {
	switch a.how {
	case toAsk:
		return p.ask(a.request, a.now), 0
	case toGrant:
		return p.grant(a.lease, a.now), 0
	case toClose:
		return nil, p.close(a.lease.Key, a.lease.Gen)
	case toDrop:
		p.drop(a.lease.Gen)
		return nil, 0
	case toExpire:
		return p.expire(a.now), 0
	case toRefuse:
		return p.refuse(a.lease.Key, a.why), 0
	}
	return p.crash(), 0
}

// tried does an act with an edge and with the plain one, and holds what they tell, and have then, against each other.
func tried(t *testing.T, e *Edge, p *plain, a act) []api.Answer {
	t.Helper()
	l, n := a.onEdge(e)
	want, must := a.onPlain(p)
	if !slices.Equal(l, want) || n != must {
		t.Fatalf("%+v: %v, %d, not %v, %d", a, l, n, want, must)
	}
	p.state().is(t, "behind an act", e)
	if t.Failed() {
		t.Fatalf("behind %+v", a)
	}
	return l
}

// drawKey is mostly one of a few keys of four policies.
func drawKey(x *uint64) int {
	if draw(x, 30) == 0 {
		return drawNear(x, 9)
	}
	l := []int{5, 5, 5, 5, 6, 6, policy, policy, 2*policy + 5, 3 * policy}
	return l[draw(x, len(l))]
}

// drawn is any act, of a few names and keys, and at few readings, mostly.
func drawn(x *uint64) act {
	l := []int{toAsk, toAsk, toAsk, toAsk, toAsk, toAsk, toAsk, toAsk, toGrant, toGrant, toGrant, toClose, toClose, toDrop, toExpire, toRefuse}
	a := act{
		how:     l[draw(x, len(l))],
		request: api.Request{ID: drawNear(x, 30), Key: drawKey(x), Cost: drawNear(x, 5) + draw(x, 2), Class: drawNear(x, 2), Wait: drawNear(x, 9)},
		lease:   of(drawKey(x), drawNear(x, 3), drawNear(x, 25), drawNear(x, 30)),
		now:     drawNear(x, 25),
		why:     api.Reason(drawNear(x, 8)),
	}
	switch {
	case a.how == toAsk && a.request.Cost > 5 && draw(x, 2) == 0:
		a.request.Cost = 1
	case a.how == toGrant && draw(x, 20) == 0:
		a.lease.Spent = drawNear(x, 2)
	case a.how == toDrop && draw(x, 3) > 0:
		a.lease.Gen = draw(x, 3)
	case a.how == toExpire && a.now > 20 && draw(x, 2) > 0:
		a.now = draw(x, 8)
	case a.how == toRefuse && draw(x, 8) == 0:
		a.how = toCrash
	}
	return a
}

// confs are configurations that may be, for drawn acts: of each room, of bursts of all kinds, and of policies that have no rate.
func confs() []api.Conf {
	var l []api.Conf
	for n := range 17 {
		l = append(l, room(theConf(), n), room(bursts(4, 1<<31, 1), n), room(bursts(20), n), room(bursts(0, 30), n))
	}
	return append(l, bursts(12, 6, 1<<31, 3, 0, 0, 1, 9))
}

// H1, H2: many acts in any order, beside a plain edge.
func TestBesideAPlainOne(t *testing.T) {
	x := uint64(42)
	var told [howMany][3]int
	why := map[api.Reason]int{}
	for _, c := range confs() {
		for range 12 {
			e, p := made(t, c), &plain{c: c}
			for range 120 {
				a := drawn(&x)
				l := tried(t, e, p, a)
				told[a.how][min(len(l), 2)]++
				for _, y := range l {
					if a.how == toAsk {
						why[y.Reason]++
					}
				}
			}
		}
	}
	for _, k := range []api.Reason{api.Granted, api.NoCredit, api.QueueFull, api.OverBurst, api.Unknown, api.Malformed} {
		if why[k] < 500 {
			t.Errorf("of Ask: %v", why)
		}
	}
	// Each act often answered one, or several, and often none.
	for how, l := range told {
		answers := how != toClose && how != toDrop
		if l[0] < 100 || answers && l[1] < 100 || answers && how != toAsk && l[2] < 100 {
			t.Errorf("of act %d: %v", how, told)
		}
	}
}

// shortOnes are acts of few names and two keys, few of each kind.
func shortOnes() []act {
	a := func(id, key, cost, class, wait, now int) act {
		return act{how: toAsk, request: api.Request{ID: id, Key: key, Cost: cost, Class: class, Wait: wait}, now: now}
	}
	return []act{
		a(1, 5, 2, 1, 2, 0),
		a(2, 5, 3, 0, 1, 0),
		a(3, 5, 1, 1, 4, 1),
		a(4, 5, 1, 0, 0, 1),
		a(1, policy, 2, 2, 3, 0),
		a(5, policy, 4, 0, 3, 1),
		{how: toGrant, lease: of(5, 2, 4, 3), now: 1},
		{how: toGrant, lease: of(5, 1, 3, 2), now: 2},
		{how: toGrant, lease: of(policy, 1, 9, 5), now: 1},
		{how: toClose, lease: of(5, 2, 0, 0)},
		{how: toClose, lease: of(policy, 1, 0, 0)},
		{how: toDrop, lease: of(0, 2, 0, 0)},
		{how: toExpire, now: 2},
		{how: toRefuse, lease: of(5, 0, 0, 0), why: api.TableFull},
		{how: toCrash},
	}
}

// H1, H2: each row of four acts out of these, with little room.
func TestAllShortOnes(t *testing.T) {
	l := shortOnes()
	row := make([]int, 4)
	for range len(l) * len(l) * len(l) * len(l) {
		for n := 1; n <= 3; n++ {
			c := room(theConf(), n)
			e, p := made(t, c), &plain{c: c}
			for _, k := range row {
				tried(t, e, p, l[k])
			}
		}
		for i := range row {
			row[i] = (row[i] + 1) % len(l)
			if row[i] > 0 {
				break
			}
		}
	}
}
