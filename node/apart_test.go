package node

import (
	"math"
	"slices"
	"testing"

	"annona/api"
	"annona/vault"
)

// TestNil: G2, on a nil node ErrArg of the calls that have an error, ahead of all else; nothing, true, false, 0 and nil of the others.
func TestNil(t *testing.T) {
	var n *Node
	for _, now := range append(edges(), start) {
		for _, f := range append(good(), wrongFrames()[0]) {
			receives(t, n, f, now, fails(api.ErrArg))
		}
		steps(t, n, now, fails(api.ErrArg))
		asks(t, n, request(1, 5, 1), now, fails(api.ErrArg))
	}
	n.Break()
	if l := n.Crash(); len(l) > 0 {
		t.Errorf("Crash: %v", l)
	}
	if !n.Halted() || n.State() != (vault.State{}) || n.Won() != 0 || n.Edge() != nil {
		t.Errorf("%t, %v, %d, %v", n.Halted(), n.State(), n.Won(), n.Edge())
	}
	hasNone(t, n)
}

// spread is a token whose lists have room behind their lengths, in which lies what would count if it were looked at.
func spread(l api.Token) api.Token {
	stamps := slices.Concat(l.Stamps, []int{start, start, start})
	l.Stamps = stamps[:len(l.Stamps)]
	rows := make([]api.Row, 0, len(l.Table.Rows)+3)
	for _, r := range l.Table.Rows {
		out := slices.Concat(r.Out, []api.Lease{{Node: here, Amount: 5}, {Node: 0, Amount: 1}})
		r.Out = out[:len(r.Out)]
		rows = append(rows, r)
	}
	rows = append(rows, rowOf(5, 8, 95, api.Lease{Node: 2, Amount: 3}), rowOf(0, 4, 95))
	l.Table.Rows = rows[:len(l.Table.Rows)]
	return l
}

// memory is all that a token's lists have, as far as their memory goes, as a copy.
func memory(l api.Token) api.Token {
	l.Stamps = slices.Clone(l.Stamps[:cap(l.Stamps)])
	l.Table.Rows = slices.Clone(l.Table.Rows[:cap(l.Table.Rows)])
	for i, r := range l.Table.Rows {
		l.Table.Rows[i].Out = slices.Clone(r.Out[:cap(r.Out)])
	}
	return l
}

// stays is what was handed in, or told, and what its memory was then.
type stays struct {
	tokens, were      []api.Token
	answers, answered []api.Answer
}

// staying keeps it.
func staying(answers []api.Answer, l ...api.Token) stays {
	s := stays{tokens: l, answers: answers, answered: slices.Clone(answers)}
	for _, x := range l {
		s.were = append(s.were, memory(x))
	}
	return s
}

// holds holds that it stays.
func (s stays) holds(t *testing.T) {
	t.Helper()
	for i, x := range s.tokens {
		if got := memory(x); !sameToken(got, s.were[i]) {
			t.Fatalf("%v is now %v", s.were[i], got)
		}
	}
	if !slices.Equal(s.answers, s.answered) {
		t.Fatalf("%v is now %v", s.answered, s.answers)
	}
}

// tokensOf are all that a call told of tokens.
func tokensOf(frames []api.Frame, n *Node) []api.Token {
	var l []api.Token
	for _, f := range frames {
		l = append(l, f.Token)
	}
	x, _ := n.Token()
	return append(l, x)
}

// loaded is a token of three nodes at a reading, with rows and leases, and room behind its lists.
func loaded(x *uint64, gen, hop, now int) api.Token {
	l := tokenOf(gen, hop)
	for i := range l.Stamps {
		l.Stamps[i] = now - draw(x, 8)
	}
	for _, key := range []int{1, 5, policy} {
		r := rowOf(key, draw(x, 9), 90+draw(x, 9))
		for i := range 3 {
			if draw(x, 2) == 0 {
				r.Out = append(r.Out, api.Lease{Node: i, Amount: 1 + draw(x, 4)})
			}
		}
		l.Table.Rows = append(l.Table.Rows, r)
	}
	return spread(l)
}

// TestAllStays: rules 3 and 4, what was handed in, and what was told, stays through all later calls, also behind the lists' lengths.
func TestAllStays(t *testing.T) {
	x := uint64(194)
	for range 60 {
		n := theNode(t)
		var all []stays
		for i := range 100 {
			now, f := start+i/2, beatOf(2*draw(&x, 2), here)
			switch draw(&x, 5) {
			case 0:
				f = passOf(0, here, loaded(&x, 3+i/9, i, now))
			case 1:
				f = electOf(0, here, i/9, 1)
			case 2:
				q := request(i, []int{1, 5, policy}[draw(&x, 3)], 1+draw(&x, 6))
				answers, _ := n.Ask(q, now)
				all = append(all, staying(answers))
			case 3:
				frames, answers, _ := n.Step(now)
				all = append(all, staying(answers, tokensOf(frames, n)...))
			}
			all = append(all, staying(nil, f.Token))
			frames, answers, _ := n.Receive(f, now)
			all = append(all, staying(answers, tokensOf(frames, n)...))
		}
		all = append(all, staying(n.Crash()))
		for _, s := range all {
			s.holds(t)
		}
	}
}

// spoil writes into all of a token's lists, and behind them.
func spoil(l api.Token) {
	_ = append(l.Stamps, -77)
	_ = append(l.Table.Rows, rowOf(-77, -77, -77))
	for i := range l.Stamps {
		l.Stamps[i] = -77
	}
	for i, r := range l.Table.Rows {
		_ = append(r.Out, api.Lease{Node: -77})
		for j := range r.Out {
			r.Out[j] = api.Lease{Node: -77, Amount: -77}
		}
		l.Table.Rows[i] = rowOf(-77, -77, -77)
	}
}

// TestToldIsNew: rule 4, whoever writes into what was handed in, or told, turns nothing of the node, nor of what it tells later: it does what a twin does.
func TestToldIsNew(t *testing.T) {
	for seed := range uint64(40) {
		x, y := seed, seed
		n, twin := theNode(t), theNode(t)
		one := func(x *uint64, n *Node, i int, spoils bool) said {
			f := beatOf(2*draw(x, 2), here)
			switch draw(x, 3) {
			case 0:
				f = passOf(0, here, loaded(x, 3+i/9, i, start+i/2))
			case 1:
				n.Ask(request(i, []int{1, 5, policy}[draw(x, 3)], 1+draw(x, 6)), start+i/2)
			}
			first := called(n.Receive(f, start+i/2))
			second := called(n.Step(start + i/2))
			out := said{frames: slices.Concat(first.frames, second.frames), answers: slices.Concat(first.answers, second.answers)}
			for k, f := range out.frames {
				out.frames[k].Token = copied(f.Token)
			}
			if spoils {
				for _, l := range append(tokensOf(slices.Concat(first.frames, second.frames), n), f.Token) {
					spoil(l)
				}
				for _, s := range []said{first, second} {
					_ = append(s.frames, beatOf(-77, -77))
					_ = append(s.answers, granted(-77, -77))
					for k := range s.frames {
						s.frames[k] = beatOf(-77, -77)
					}
					for k := range s.answers {
						s.answers[k] = granted(-77, -77)
					}
				}
			}
			return out
		}
		for i := range 80 {
			got, want := one(&x, n, i, true), one(&y, twin, i, false)
			if !sameSaid(got, want) || !sameLooks(looksOf(n), looksOf(twin)) {
				t.Fatalf("seed %d, act %d:\n%+v, not\n%+v", seed, i, got, want)
			}
		}
	}
}

// TestRatesStay: rule 4, a configuration's rates are neither written into nor kept.
func TestRatesStay(t *testing.T) {
	c := theConf()
	c.Rates = append(make([]api.Rate, 0, 9), c.Rates...)
	n := made(t, c, here, diskOf(t, roomy), start)
	for i := range c.Rates {
		c.Rates[i] = api.Rate{R: -1, B: -1}
	}
	waits(t, n, 1, 5, 4, start)
	l := with(stamped(tokenOf(5, 1), 0, start), rowOf(5, 7, start-1))
	receives(t, n, passOf(0, here, l), start, said{frames: []api.Frame{ackOf(here, 0, 5, 1)}, answers: []api.Answer{granted(1, 5)}})
	hasToken(t, n, with(stamped(stamped(tokenOf(5, 1), 0, start), here, start), rowOf(5, 5, start, api.Lease{Node: here, Amount: 4})))
	if all := c.Rates[:9]; all[2] != (api.Rate{}) || all[8] != (api.Rate{}) || all[0] != (api.Rate{R: -1, B: -1}) {
		t.Errorf("the rates are %v", all)
	}
}

// everyCall is what drawn calls tell, also such as may not be.
func everyCall(t *testing.T) []int {
	var out []int
	x := uint64(195)
	near := func(most int) int {
		if l := edges(); draw(&x, 25) == 0 {
			return l[draw(&x, len(l))]
		}
		return draw(&x, most)
	}
	told := func(s said) {
		out = append(out, int(s.err), len(s.frames), len(s.answers))
		for _, f := range s.frames {
			out = append(append(out, int(f.Kind), f.From, f.To, f.Gen, f.Hop, int(f.Bits), f.Token.Gen, f.Token.Hop), f.Token.Stamps...)
			for _, r := range f.Token.Table.Rows {
				out = append(out, r.Key, r.Avail, r.Mark, len(r.Out))
			}
		}
		for _, a := range s.answers {
			out = append(out, a.ID, a.Gen, int(a.Reason))
		}
	}
	for range 12 {
		c := theConf()
		c.N, c.Loss = 1+draw(&x, 4), 1+draw(&x, 30)
		nodes := []*Node{nil, made(t, c, 0, diskOf(t, roomy), start), made(t, c, c.N-1, diskOf(t, 9*bytesOf), 0)}
		for i := range 600 {
			n := nodes[draw(&x, len(nodes))]
			told(called(n.Step(near(200 + i))))
			answers, err := n.Ask(api.Request{ID: near(90), Key: near(3), Cost: near(5), Class: near(3), Wait: near(30)}, near(200+i))
			told(said{answers: answers, err: err})
			f := api.Frame{Kind: api.Kind(near(4)), From: near(c.N), To: near(c.N)}
			switch f.Kind {
			case api.Pass:
				f.Token = loaded(&x, 1+near(9), near(9), start+i)
				f.Token.Stamps = f.Token.Stamps[:min(c.N, 3)]
			case api.Ack:
				f.Gen, f.Hop = near(9), near(9)
			case api.Elect:
				f.Gen, f.Bits = near(40), uint64(near(8))
			}
			told(called(n.Receive(f, near(200+i))))
			if draw(&x, 300) == 0 {
				n.Break()
			}
			if draw(&x, 900) == 0 {
				told(said{answers: n.Crash()})
			}
			s := n.State()
			out = append(out, s.Promised, s.Gen, s.Hop, s.Round, n.Won())
		}
	}
	return out
}

// P1, P2: every call ends, and what it tells hangs on its arguments and the calls ahead of it on the same node, and its disk, alone.
func TestArgumentsAlone(t *testing.T) {
	want := everyCall(t)
	for range 3 {
		if !slices.Equal(everyCall(t), want) {
			t.Fatal("the same calls told something else")
		}
	}
}

// P2: other nodes, on disks of their own, turn nothing of one.
func TestBesideOthers(t *testing.T) {
	x := uint64(196)
	s := someOf(t, drawnConf(&x, 3), roomy, 40)
	others := []*some{someOf(t, s.c, roomy, 40), someOf(t, drawnConf(&x, 2), roomy, 50)}
	for range 3000 {
		s.act(t, &x, true)
		for _, o := range others {
			o.act(t, &x, true)
		}
	}
}

// P1: each call ends at all edges of the ints, whatever the frame is, on nodes of all kinds.
func TestAllEnd(t *testing.T) {
	var frames []api.Frame
	for _, a := range edges() {
		for _, b := range []int{math.MinInt, -1, 0, 1, 2, 63, 64, most, end, math.MaxInt} {
			frames = append(frames,
				api.Frame{Kind: api.Kind(a), From: b, To: here}, api.Frame{Kind: api.Kind(b), From: a, To: a},
				ackOf(0, here, a, b), electOf(2, here, a, uint64(b)), passOf(0, here, tokenOf(a, b)),
				passOf(2, here, api.Token{Gen: most, Hop: most, Stamps: []int{a, b, a}, Table: api.Table{Start: b, Rows: []api.Row{rowOf(a, b, a, api.Lease{Node: b, Amount: a})}}}),
			)
		}
	}
	last, _ := onDisk(t, state(most, most, most, most))
	over := theNode(t)
	over.Crash()
	for _, n := range []*Node{nil, theNode(t), busy(t), last, over} {
		for _, now := range edges() {
			for _, f := range frames {
				n.Receive(f, now)
			}
			n.Step(now)
			n.Ask(api.Request{ID: now, Key: now, Cost: now, Class: now, Wait: now}, now)
			n.Ask(request(now, 5, 3), now)
			n.Step(now)
			n.Token()
			n.State()
			n.Won()
			n.Edge()
			n.Halted()
		}
		n.Break()
		n.Step(end - 1)
		n.Crash()
		n.Crash()
	}
	for _, a := range edges() {
		for _, b := range edges() {
			c := theConf()
			c.N, c.Hear, c.Loss = a, b, a
			New(c, b, diskOf(t, 0), a)
			New(theConf(), a, nil, b)
			New(theConf(), a, diskOf(t, roomy), b)
		}
	}
}
