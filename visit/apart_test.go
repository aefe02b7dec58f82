package visit

import (
	"math"
	"slices"
	"testing"

	"annona/api"
	"annona/edge"
)

// spread is a token whose lists have room behind their lengths, in which lies what would count if it were looked at.
func spread(l api.Token) api.Token {
	stamps := slices.Concat(l.Stamps, []int{45, 45, 45, 45})
	l.Stamps = stamps[:len(l.Stamps)]
	rows := make([]api.Row, 0, len(l.Table.Rows)+3)
	for _, r := range l.Table.Rows {
		out := slices.Concat(r.Out, []api.Lease{to(2, 5), to(0, 1), to(63, 9)})
		r.Out = out[:len(r.Out)]
		rows = append(rows, r)
	}
	rows = append(rows, rowOf(5, 8, 11, to(2, 3)), rowOf(0, 4, 10), rowOf(policy, 9, 12, to(2, 1)))
	l.Table.Rows = rows[:len(l.Table.Rows)]
	return l
}

// memory is all that a token's lists have, as far as their memory goes, as a copy.
func memory(l api.Token) api.Token {
	l.Stamps = slices.Clone(l.Stamps[:cap(l.Stamps)])
	l.Table.Rows = slices.Clone(l.Table.Rows[:cap(l.Table.Rows)])
	for i, r := range l.Table.Rows {
		l.Table.Rows[i].Out = slices.Clone(r.Out[:cap(r.Out)])
	}
	return l
}

// kept is what was handed in, or told, and what its memory was then.
type kept struct {
	token, was        api.Token
	answers, answered []api.Answer
}

// keep keeps it.
func keep(l api.Token, answers []api.Answer) kept {
	return kept{l, memory(l), answers, slices.Clone(answers)}
}

// holds holds that it stays.
func (k kept) holds(t *testing.T) {
	t.Helper()
	if got := memory(k.token); !sameToken(got, k.was) || !slices.Equal(k.answers, k.answered) {
		t.Fatalf("%v, %v is now %v, %v", k.was, k.answered, got, k.answers)
	}
}

// TestAllStays: D1, rules 3 and 4, the tokens that were handed in, and all that was told, stay through all later calls, also behind their lists' lengths.
func TestAllStays(t *testing.T) {
	x := uint64(184)
	for range 60 {
		c := drawnConf(&x, 3)
		r := ringOf(t, c, spread(drawnToken(&x, 3, 40)))
		var all []kept
		for i := range 100 {
			at := 40 + i/2
			switch draw(&x, 4) {
			case 0:
				all = append(all, keep(r.token, nil))
				answers := r.visit(t, draw(&x, 3), at)
				all = append(all, keep(r.token, answers))
			case 1:
				if draw(&x, 6) == 0 {
					r.give(spread(drawnToken(&x, 3, at)))
				} else {
					r.give(spread(r.token))
				}
			default:
				r.ask(t, draw(&x, 3), drawnRequest(&x), at)
			}
		}
		for _, k := range all {
			k.holds(t)
		}
	}
}

// TestOneTokenTwice: a token that was handed in may be handed in again: each visit is of it as it was.
func TestOneTokenTwice(t *testing.T) {
	l := spread(holding())
	want := visits(t, l, busy(t), theConf(), behind(rowOf(4, 9, 20), rowOf(5, 0, now, to(1, 2), to(here, 5)), rowOf(8, 5, now, to(here, 4)), rowOf(policy, 0, now, to(here, 55))), yes(3, gen), yes(1, gen))
	first := keep(want, nil)
	for range 3 {
		got, told, err := Visit(l, busy(t), here, now, theConf())
		if err != api.OK || !sameToken(got, want) || !slices.Equal(told, []api.Answer{yes(3, gen), yes(1, gen)}) {
			t.Errorf("again: %v, %v, error %d", got, told, err)
		}
		first.holds(t)
	}
}

// TestToldIsNew: rule 4, writing into the answers, or behind them, changes nothing of the edge, nor of what later calls answer.
func TestToldIsNew(t *testing.T) {
	x := uint64(185)
	for range 40 {
		r := ringOf(t, drawnConf(&x, 2), drawnToken(&x, 2, 40))
		for i := range 60 {
			if draw(&x, 3) > 0 {
				r.ask(t, draw(&x, 2), drawnRequest(&x), 40+i)
				continue
			}
			answers := r.visit(t, draw(&x, 2), 40+i)
			_ = append(answers, yes(-77, -77))
			for i := range answers {
				answers[i] = yes(-77, -77)
			}
			r.check(t)
		}
	}
}

// TestStampsAreNew: the stamps that are told are the token's own, as the visit puts one, whether it may be or not.
func TestStampsAreNew(t *testing.T) {
	for _, node := range []int{here, 3} {
		for _, l := range []api.Token{holding(), stamped(holding(), -1, -1, -1)} {
			was := copied(l)
			got, _, _ := Visit(l, busy(t), node, now, theConf())
			for i := range got.Stamps {
				got.Stamps[i] = -77
			}
			if !sameToken(l, was) {
				t.Errorf("node %d: %v was handed in, and is %v", node, was, l)
			}
		}
	}
}

// TestRatesStay: rule 4, a configuration's rates are not written into, and not kept: others, later, turn nothing of what was done.
func TestRatesStay(t *testing.T) {
	c := theConf()
	c.Rates = append(make([]api.Rate, 0, 9), c.Rates...)
	e := asked(t, theConf(), request(1, 5, 4))
	l := visits(t, tokenOf(rowOf(5, 7, now)), e, c, behind(rowOf(5, 3, now, to(here, 4))), yes(1, gen))
	for i := range c.Rates {
		c.Rates[i] = api.Rate{R: -1, B: -1}
	}
	if all := c.Rates[:9]; all[3] != (api.Rate{}) || all[8] != (api.Rate{}) {
		t.Errorf("behind the rates stand %v", all)
	}
	visitsAt(t, l, e, here, 47, theConf(), stamped(behind(rowOf(5, 1, 47, to(here, 4))), 40, 38, 47))
}

// everyCall is what drawn calls tell, also such as may not be, and what the edges are then.
func everyCall(t *testing.T) []int {
	var out []int
	x := uint64(186)
	for _, e := range []*edge.Edge{made(t, theConf()), made(t, drawnConf(&x, 3)), nil} {
		for range 900 {
			q := drawnRequest(&x)
			q.ID = draw(&x, 1<<20)
			l := drawnToken(&x, 3, 40)
			if draw(&x, 9) == 0 {
				l.Table.Start = drawNear(&x, 9)
			}
			e.Ask(q, 40)
			got, told, err := Visit(l, e, drawNear(&x, 2), drawNear(&x, 50), theConf())
			out = append(append(out, int(err), got.Gen, got.Hop, got.Table.Start), got.Stamps...)
			for _, r := range got.Table.Rows {
				out = append(out, r.Key, r.Avail, r.Mark)
				for _, y := range r.Out {
					out = append(out, y.Node, y.Amount)
				}
			}
			for _, y := range told {
				out = append(out, y.ID, y.Gen, int(y.Reason))
			}
			for _, y := range e.Leases() {
				out = append(out, y.Key, y.Gen, y.Amount, y.Spent, y.Until)
			}
			for _, y := range e.Wants() {
				out = append(out, y.Key, y.Amount)
			}
		}
	}
	return out
}

// P1, P2: every call ends, and what it tells hangs on its arguments and the calls ahead of it on the same edge alone.
func TestArgumentsAlone(t *testing.T) {
	want := everyCall(t)
	for range 3 {
		if !slices.Equal(everyCall(t), want) {
			t.Fatal("the same calls told something else")
		}
	}
}

// P2: visits of other nodes, and of other tokens, between those of one, turn nothing of it.
func TestBesideOthers(t *testing.T) {
	x := uint64(187)
	c := drawnConf(&x, 3)
	r := ringOf(t, c, drawnToken(&x, 3, 40))
	others := []*ring{ringOf(t, c, drawnToken(&x, 3, 40)), ringOf(t, drawnConf(&x, 5), drawnToken(&x, 5, 40))}
	for i := range 2000 {
		r.step(t, &x, 40+i/9)
		for _, o := range others {
			o.step(t, &x, 40+i/7)
		}
	}
	r.check(t)
}

// odd are tokens of all kinds, also such as may not be.
func odd() []api.Token {
	long := tokenOf()
	for i := range 20 {
		r := rowOf(i, i, i)
		for j := range 70 {
			r.Out = append(r.Out, to(j-2, j))
		}
		long.Table.Rows = append(long.Table.Rows, r)
	}
	end := tokenOf(rowOf(math.MaxInt, math.MinInt, math.MaxInt, to(math.MinInt, math.MaxInt)), rowOf(5, math.MaxInt, math.MaxInt, to(2, math.MaxInt)))
	end.Gen, end.Hop, end.Table.Start = math.MaxInt, math.MinInt, math.MaxInt
	return []api.Token{{}, holding(), tokenOf(), long, end, stamped(holding(), math.MinInt, math.MaxInt, 0), stamped(holding(), make([]int, 70)...)}
}

// P1: each call ends at all edges of the ints, of every kind of token and configuration, and of edges of others.
func TestAllEnd(t *testing.T) {
	e := busy(t)
	for _, l := range odd() {
		for _, a := range edges() {
			for _, b := range edges() {
				c := theConf()
				Visit(l, e, a, b, c)
				Visit(l, nil, a, b, c)
				l.Gen, l.Table.Start = a, b
				Visit(l, e, here, now, c)
				c.N, c.TTL, c.Valid, c.Keys = a, b, a, b
				Visit(l, e, here, now, c)
				c = theConf()
				c.Skew, c.TTL, c.Rates = a, b, []api.Rate{{R: a, B: b}}
				Visit(l, e, here, b, c)
				e.Ask(request(a, 5, 3), now)
			}
		}
	}
}
