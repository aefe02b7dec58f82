package elect

import (
	"testing"

	"annona/api"
)

// plain is an election by the chapter's words alone.
type plain struct {
	n, node         int
	promised, round int
	stands          bool
	bits            [64]bool
}

// plainOf is a plain election that doesn't stand.
func plainOf(n, node, promised, round int) *plain {
	return &plain{n: n, node: node, promised: promised, round: round}
}

// set are a plain election's bits.
func (p *plain) set() uint64 {
	var s uint64
	for i, b := range p.bits {
		if b {
			s |= 1 << i
		}
	}
	return s
}

// brought puts bits to those that it has.
func (p *plain) brought(s uint64) {
	for i := range p.bits {
		p.bits[i] = p.bits[i] || s>>i&1 == 1
	}
}

// wins tells whether more than half of the ring's nodes are in its bits; then it stands no more.
func (p *plain) wins() bool {
	count := 0
	for _, b := range p.bits[:p.n] {
		if b {
			count++
		}
	}
	if p.stands && 2*count > p.n {
		p.stands = false
		return true
	}
	return false
}

func (p *plain) stand() (Result, api.Errno) {
	b := next(p.n, p.promised, p.node)
	if b > top {
		return none, api.ErrOver
	}
	p.promised, p.round, p.stands = b, b/p.n, true
	p.bits = [64]bool{}
	p.bits[p.node] = true
	won := p.wins()
	return Result{Send: !won, Gen: b, Bits: p.set(), Won: won}, api.OK
}

func (p *plain) take(gen int, s uint64) Result {
	if gen < 1 || gen > top || gen < p.promised {
		return none
	}
	if gen > p.promised {
		p.promised, p.stands = gen, false
		return Result{Send: true, Gen: gen, Bits: s | 1<<p.node}
	}
	if !p.stands {
		return none
	}
	p.brought(s)
	won := p.wins()
	return Result{Gen: gen, Bits: p.set(), Won: won}
}

func (p *plain) raise(gen int) bool {
	if gen <= p.promised || gen > top {
		return false
	}
	p.promised, p.stands = gen, false
	return true
}

// standing is what it stands with, which it promised.
func (p *plain) standing() int {
	if p.stands {
		return p.promised
	}
	return 0
}

// An act is one call: 0 stands, 1 takes, 2 raises.
type act struct {
	kind int
	gen  int
	bits uint64
}

// done does an act with an election and a plain one, and holds all that they tell against each other.
func done(t *testing.T, e *Election, p *plain, a act) {
	t.Helper()
	switch a.kind {
	case 0:
		if want, err := p.stand(); err == api.OK {
			stands(t, e, want)
		} else {
			standsNot(t, e, err)
		}
	case 1:
		takes(t, e, a.gen, a.bits, p.take(a.gen, a.bits))
	case 2:
		raises(t, e, a.gen, p.raise(a.gen))
	}
	has(t, e, p.promised, p.round, p.standing())
}

// drawAct is an act, most of them near what was promised.
func drawAct(x *uint64, n, promised int) act {
	a := act{kind: draw(x, 3), gen: promised + draw(x, 5) - 2, bits: drawBits(x)}
	switch draw(x, 8) {
	case 0:
		a.gen = drawWide(x)
	case 1:
		a.gen = promised + draw(x, 3*n)
	case 2, 3, 4, 5:
		// Often a frame of its own ballot, with few bits, so that it stands for a while.
		a.kind, a.gen, a.bits = 1, promised, 1<<draw(x, 64)
	}
	return a
}

// TestBesideAPlainOne: P17.1, drawn calls of an election and of a plain one tell the same.
func TestBesideAPlainOne(t *testing.T) {
	x := uint64(65)
	for range 3000 {
		n := 1 + draw(&x, 64)
		if draw(&x, 2) == 0 {
			n = 1 + draw(&x, 5)
		}
		node, promised, round := draw(&x, n), draw(&x, 200), draw(&x, 100)
		if draw(&x, 4) == 0 {
			promised = top - draw(&x, 1+2*n)
		}
		e, p := made(t, n, node, promised, round), plainOf(n, node, promised, round)
		for range 60 {
			a := drawAct(&x, n, p.promised)
			done(t, e, p, a)
			if t.Failed() {
				t.Fatalf("New(%d, %d, %d, %d): %v", n, node, promised, round, a)
			}
		}
	}
}

// row does all rows of acts of up to so many, each behind those ahead of it.
func row(t *testing.T, n, node, promised int, acts, l []act, most int) {
	e, p := made(t, n, node, promised, 1), plainOf(n, node, promised, 1)
	for _, a := range l {
		done(t, e, p, a)
	}
	if t.Failed() {
		t.Fatalf("New(%d, %d, %d, 1): %v", n, node, promised, l)
	}
	if len(l) == most {
		return
	}
	for _, a := range acts {
		row(t, n, node, promised, acts, append(l[:len(l):len(l)], a), most)
	}
}

// TestAllShortOnes: P17.1, all rows of up to four acts of the nodes of three, with few ballots and all sets of these nodes and one that there is not.
func TestAllShortOnes(t *testing.T) {
	acts := []act{{kind: 0}}
	for gen := 3; gen <= 7; gen++ {
		acts = append(acts, act{kind: 2, gen: gen})
		for _, bits := range []uint64{0, 2, 4, 9} {
			acts = append(acts, act{kind: 1, gen: gen, bits: bits})
		}
	}
	for node := range 3 {
		row(t, 3, node, 2, acts, nil, 3)
	}
	row(t, 3, 1, 3, acts[:15], nil, 4)
}

// TestAllSmallSets: P17.1, P17.2, of each ring up to five, each node, all sets of the six nodes from 0 on, one brought behind the other.
func TestAllSmallSets(t *testing.T) {
	for n := 1; n <= 5; n++ {
		for node := range n {
			for s := range uint64(64) {
				for r := range uint64(64) {
					e, p := made(t, n, node, 9, 1), plainOf(n, node, 9, 1)
					done(t, e, p, act{kind: 0})
					done(t, e, p, act{kind: 1, gen: p.promised, bits: s})
					done(t, e, p, act{kind: 1, gen: p.promised, bits: r})
				}
			}
		}
	}
}
