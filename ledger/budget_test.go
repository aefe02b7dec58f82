package ledger

import (
	"math/big"
	"testing"

	"annona/api"
)

// moment is what there is of a key behind an act: its total, its Mark, and all that was spent since the beginning.
type moment struct {
	total, mark, spent int
}

// budget is one key of a table, of which there are mints, settlements and grants.
type budget struct {
	t    api.Table
	key  int
	rate api.Rate
	all  []moment
}

// note keeps what there is now, and holds the total against B.
func (b *budget) note(t *testing.T, spent int) {
	t.Helper()
	r, _ := Find(b.t, b.key)
	if last := len(b.all) - 1; last >= 0 {
		spent += b.all[last].spent
	}
	b.all = append(b.all, moment{Total(r), r.Mark, spent})
	if Total(r) > b.rate.B {
		t.Fatalf("%v: a total of %d is above %d", r, Total(r), b.rate.B)
	}
}

// check holds what was spent between any two acts against what there was in total, and R times how far the Mark went.
func (b *budget) check(t *testing.T) {
	t.Helper()
	for i, from := range b.all {
		for _, to := range b.all[i+1:] {
			most := new(big.Int).Mul(big.NewInt(int64(b.rate.R)), big.NewInt(int64(to.mark-from.mark)))
			most.Add(most, big.NewInt(int64(from.total)))
			if big.NewInt(int64(to.spent-from.spent)).Cmp(most) > 0 {
				t.Fatalf("rate %v: from %+v to %+v more is spent than %s", b.rate, from, to, most)
			}
		}
	}
}

// run does drawn acts on the key, of amounts and times that are drawn by the rules that are handed in.
func (b *budget) run(t *testing.T, x *uint64, acts int, amount, time func() int) {
	t.Helper()
	var l [8]api.Rate
	l[b.key/65536] = b.rate
	c := rated(3+draw(x, 4), draw(x, 5), l[:]...)
	b.note(t, 0)
	for range acts {
		node, spent := draw(x, 4), 0
		switch draw(x, 4) {
		case 0, 1:
			b.t, _ = Mint(b.t, b.key, time(), c)
		case 2:
			b.t, spent = Settle(b.t, b.key, node, amount()-1)
		default:
			b.t, _ = Grant(b.t, b.key, node, amount())
		}
		b.note(t, spent)
	}
	b.check(t)
}

// P9.2 by what it says: of drawn mints, settlements and grants of one key, at times that go forth and back.
func TestBudget(t *testing.T) {
	x := uint64(92)
	spent := 0
	for i := range 1500 {
		b := budget{key: []int{0, 5, 65540, 524287}[draw(&x, 4)], rate: api.Rate{R: draw(&x, 6), B: draw(&x, 60)}}
		start := draw(&x, 50)
		if i%5 == 0 {
			start = end - draw(&x, 60)
		}
		b.t = tableOf(start, rowOf(4, 7, start, to(1, 3)), rowOf(65539, 2, start))
		now := start
		b.run(t, &x, 40, func() int { return draw(&x, 12) }, func() int {
			now += draw(&x, 9) - 2
			return now
		})
		spent += b.all[len(b.all)-1].spent
	}
	if spent < 10000 {
		t.Errorf("only %d was spent in all", spent)
	}
}

// P9.2: at any times, and of any rates and amounts that may be; also of a key that has a row, with something Out, from the beginning.
func TestBudgetOfAny(t *testing.T) {
	x := uint64(920)
	spent := 0
	l := edges()
	for range 1500 {
		key, start := 65540, draw(&x, 2)*draw(&x, 1<<30)
		rate := api.Rate{R: drawAny(&x) & (span - 1), B: drawAny(&x) & (span - 1)}
		avail := draw(&x, rate.B+1)
		r := rowOf(key, avail, start+draw(&x, 99))
		if out := rate.B - avail; out > 0 {
			r.Out = append(r.Out, to(draw(&x, 4), 1+draw(&x, out)))
		}
		b := budget{t: tableOf(start, rowOf(4, 7, start), r), key: key, rate: rate}
		b.run(t, &x, 30, func() int { return drawAny(&x) }, func() int {
			if draw(&x, 3) == 0 {
				return l[draw(&x, len(l))]
			}
			return drawAny(&x)
		})
		spent += min(1, b.all[len(b.all)-1].spent)
	}
	if spent < 500 {
		t.Errorf("something was spent in only %d", spent)
	}
}

// P9.2: all that there may be can be spent, and no more: of B at once, and R in each tick.
func TestBudgetSpent(t *testing.T) {
	c := rated(4, 0, api.Rate{R: 3, B: 10})
	l, _ := Mint(tableOf(0), 7, 100, c)
	spent := 0
	for now := 100; now < 120; now++ {
		l, _ = Mint(l, 7, now, c)
		l, _ = Grant(l, 7, now%3, 1000)
		var told int
		l, told = Settle(l, 7, now%3, -1)
		spent += told
	}
	if spent != 10+3*19 {
		t.Errorf("%d is spent", spent)
	}
}

// lost is a key whose row was idle at a time, with the table ahead, and that behind, in which it is gone.
type lost struct {
	ahead, behind api.Table
	key, now      int
	c             api.Conf
}

// check holds the key, looked at at a time in both, against P9.3.
func (w lost) check(t *testing.T, at int) {
	t.Helper()
	rate, _ := plainRate(w.c, w.key)
	was, is := Look(w.ahead, w.key, at, rate), Look(w.behind, w.key, at, rate)
	if !sameRow(was, is) {
		t.Fatalf("%v, of which key %d is gone at %d, skew %d: at %d it is %v, not %v", w.ahead, w.key, w.now, w.c.Skew, at, is, was)
	}
}

// drawnFull is a table that may be, of many keys, of which some are idle near the time.
func drawnFull(x *uint64, now int, c api.Conf) api.Table {
	start := max(0, now-draw(x, 50))
	t := tableOf(start)
	for _, key := range []int{1, 4, 65536, 65539, 131080, 196608} {
		if draw(x, 5) == 0 {
			continue
		}
		rate, _ := plainRate(c, key)
		r := rowOf(key, rate.B, min(end, start+draw(x, 40)))
		switch draw(x, 4) {
		case 0:
			r.Avail = draw(x, 30)
		case 1:
			r.Out = []api.Lease{to(draw(x, 64), 1+draw(x, 9))}
		}
		t.Rows = append(t.Rows, r)
	}
	return t
}

// P9.3 by what it says: of drawn tables, who was idle and is gone is as it was, looked at at any time that is not farther ahead than twice the skew.
func TestGone(t *testing.T) {
	x := uint64(930)
	gone := 0
	for i := range 60000 {
		c := rated(1+draw(&x, 4), draw(&x, 8), api.Rate{R: draw(&x, 5), B: draw(&x, 30)}, api.Rate{R: 1 + draw(&x, 9), B: draw(&x, 9)}, api.Rate{R: span, B: span})
		now := draw(&x, 90)
		if i%6 == 0 {
			now = end - draw(&x, 30)
		}
		ahead := drawnFull(&x, now, c)
		behind, _ := Mint(ahead, 65550, now, c)
		for _, r := range ahead.Rows {
			if _, there := Find(behind, r.Key); there {
				continue
			}
			gone++
			w := lost{ahead, behind, r.Key, now, c}
			for at := now - 2*c.Skew; at < now+12; at++ {
				w.check(t, at)
			}
			for _, at := range []int{now + draw(&x, 1<<40), end, end + 3, 1<<63 - 1} {
				w.check(t, max(at, now-2*c.Skew))
			}
		}
	}
	if gone < 5000 {
		t.Errorf("only %d were gone", gone)
	}
}

// P9.3: one that is gone, and comes back, is as if it had never gone.
func TestGoneAndBack(t *testing.T) {
	c := rated(1, 3, api.Rate{R: 2, B: 9}, api.Rate{R: 2, B: 9})
	ahead := tableOf(10, rowOf(5, 9, 15))
	for now := 21; now < 30; now++ {
		behind, err := Mint(ahead, 65536, now, c)
		if err != api.OK {
			t.Fatalf("at %d: error %d", now, err)
		}
		for at := now - 6; at < now+9; at++ {
			stayed, _ := Mint(ahead, 5, at, c)
			back, err := Mint(api.Table{Start: behind.Start, Rows: behind.Rows[:0]}, 5, at, c)
			if err != api.OK {
				t.Fatalf("at %d: error %d", at, err)
			}
			checkTable(t, "back", back, stayed)
		}
	}
}
