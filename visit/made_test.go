package visit

import (
	"testing"

	"annona/api"
	"annona/ledger"
)

// rowIn is a key's row in a token; nil, if there is none.
func rowIn(l api.Token, key int) *api.Row {
	for i, r := range l.Table.Rows {
		if r.Key == key {
			return &l.Table.Rows[i]
		}
	}
	return nil
}

// totalOf is all that a row has, by the words.
func totalOf(r api.Row) int {
	sum := r.Avail
	for _, x := range r.Out {
		sum += x.Amount
	}
	return sum
}

// heldBy is how much a node holds of a row.
func heldBy(r api.Row, node int) int {
	for _, x := range r.Out {
		if x.Node == node {
			return x.Amount
		}
	}
	return 0
}

// theirKeys are keys of which requests are drawn here: all have rates.
func theirKeys() []int {
	return []int{1, 2, 3, policy, policy + 4, 2 * policy}
}

// account is a ring whose grants are counted.
type account struct {
	*ring
	granted  map[int]int         // by keys
	requests map[int]api.Request // by names
	latest   int                 // the greatest reading of a visit
}

// count counts what was answered.
func (a *account) count(l []api.Answer) {
	for _, x := range l {
		if q := a.requests[x.ID]; x.Reason == api.Granted {
			a.granted[q.Key] += q.Cost
		}
	}
}

// unspent is what is left of the token's leases of a key at all nodes.
func (a *account) unspent(key int) int {
	sum := 0
	for _, e := range a.edges {
		for _, l := range e.Leases() {
			if l.Key == key && l.Gen == a.token.Gen {
				sum += l.Amount - l.Spent
			}
		}
	}
	return sum
}

// hold holds P18.2 of a token behind its visit of a node.
func (a *account) hold(t *testing.T, node int) {
	t.Helper()
	leases := map[int]int{}
	for _, l := range a.edges[node].Leases() {
		if l.Gen != a.token.Gen {
			t.Fatalf("a lease of generation %d stays", l.Gen)
		}
		leases[l.Key] = l.Amount
	}
	for _, r := range a.token.Table.Rows {
		rate, _ := rateOf(a.c, r.Key)
		if totalOf(r) > rate.B {
			t.Fatalf("%v has more than %d", r, rate.B)
		}
		if leases[r.Key] != heldBy(r, node) {
			t.Fatalf("of %v node %d has a lease of %d", r, node, leases[r.Key])
		}
		delete(leases, r.Key)
	}
	if len(leases) > 0 {
		t.Fatalf("leases %v are of no row", leases)
	}
	for _, key := range theirKeys() {
		avail := 0
		if r := rowIn(a.token, key); r != nil {
			avail = r.Avail
		}
		rate, _ := rateOf(a.c, key)
		if all, minted := a.granted[key]+avail+a.unspent(key), rate.R*(a.latest-a.token.Table.Start); all > minted {
			t.Fatalf("of key %d %d are granted, Avail and unspent, and %d minted", key, all, minted)
		}
	}
}

// told is what a node will tell as spent of a key that it holds so much of.
func (a *account) told(node, key, held int) int {
	for _, l := range a.edges[node].Leases() {
		if l.Key == key && l.Gen == a.token.Gen {
			return l.Spent
		}
	}
	return held
}

// visited is a visit, of which each key's total is held against what it is minted, less what is told as spent.
func (a *account) visited(t *testing.T, node, at int) []api.Answer {
	t.Helper()
	was := copied(a.token)
	stamps := plainly(was)
	stamps.stamps[node] = at
	valid := stamps.valid(at, a.c.Valid)
	want := map[int]int{}
	for _, key := range theirKeys() {
		rate, _ := rateOf(a.c, key)
		r := ledger.Look(was.Table, key, at, rate)
		want[key] = totalOf(r)
		if held := heldBy(r, node); held > 0 {
			want[key] -= a.told(node, key, held)
		}
	}
	answers := a.visit(t, node, at)
	for _, key := range theirKeys() {
		if !valid {
			continue
		}
		// A row that is neither held nor wanted is not minted, and one may be gone, or come; looked at, it is as if it were there, and minted.
		rate, _ := rateOf(a.c, key)
		if r := ledger.Look(a.token.Table, key, at, rate); totalOf(r) != want[key] {
			t.Fatalf("key %d has %d in all, not %d: %v, ahead %v", key, totalOf(r), want[key], a.token, was)
		}
	}
	return answers
}

// TestNothingIsMade: P18.2 by what it says, over drawn requests, crashes and visits of one token.
func TestNothingIsMade(t *testing.T) {
	x := uint64(182)
	granted := 0
	for range 1200 {
		n := 1 + draw(&x, 5)
		c := drawnConf(&x, n)
		c.Valid = 1000
		c.Rates[2].B = draw(&x, 9)
		now := draw(&x, 50)
		a := account{ring: ringOf(t, c, freshOf(n, now)), granted: map[int]int{}, requests: map[int]api.Request{}, latest: now}
		for range 100 {
			node := draw(&x, n)
			// A clock may be behind by a bit.
			at := max(0, now-draw(&x, 3))
			switch draw(&x, 12) {
			case 0:
				if draw(&x, 4) == 0 {
					a.crash(t, node)
				}
			case 1, 2, 3, 4:
				a.latest = max(a.latest, at)
				a.count(a.visited(t, node, at))
				a.hold(t, node)
			default:
				q := drawnRequest(&x)
				q.Key = theirKeys()[draw(&x, len(theirKeys()))]
				a.requests[a.names+1] = q
				a.count(a.ask(t, node, q, at))
			}
			now += draw(&x, 3)
		}
		for _, n := range a.granted {
			granted += n
		}
	}
	if granted < 20000 {
		t.Errorf("only %d was granted", granted)
	}
}

// freshOf is a token that all nodes stamped as it was made.
func freshOf(n, now int) api.Token {
	l := api.Token{Gen: 3, Table: api.Table{Start: now}}
	for range n {
		l.Stamps = append(l.Stamps, now)
	}
	return l
}
