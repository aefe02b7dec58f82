package view

import (
	"slices"
	"testing"

	"annona/ring"
)

// plain is a view by the chapter's words alone: of each node, all readings at which it was heard.
type plain struct {
	node, span int
	heard      [][]int
}

// plainOf is a plain view in which all n were heard now.
func plainOf(n, node, span, now int) *plain {
	p := &plain{node: node, span: span}
	for len(p.heard) < n {
		p.heard = append(p.heard, []int{now})
	}
	return p
}

func (p *plain) hear(from, now int) {
	for i := range p.heard {
		if i == from {
			p.heard[i] = append(p.heard[i], now)
		}
	}
}

func (p *plain) readings() []int {
	var l []int
	for _, x := range p.heard {
		l = append(l, slices.Max(x))
	}
	return l
}

func (p *plain) live(now int) ring.Set {
	var s ring.Set
	for i, since := range p.readings() {
		if i == p.node || !passed(since, now, p.span) {
			s |= of(i)
		}
	}
	return s
}

// behind is who comes behind a node in a set, round a ring of n; that node, if there is no other one.
func behind(s ring.Set, n, node int) int {
	for i := node + 1; i < n; i++ {
		if s&of(i) != 0 {
			return i
		}
	}
	for i := range node {
		if s&of(i) != 0 {
			return i
		}
	}
	return node
}

// stands holds all that a view tells at a reading against the plain one.
func stands(t *testing.T, v *View, p *plain, now int) {
	t.Helper()
	has(t, v, p.readings()...)
	lives(t, v, now, p.live(now))
	comes(t, v, now, behind(p.live(now), len(p.heard), p.node))
}

// TestBesideAPlainOne: P16.1, drawn calls of a view and of a plain one tell the same.
func TestBesideAPlainOne(t *testing.T) {
	x := uint64(65)
	for range 200 {
		n := 1 + draw(&x, 64)
		node, span, now := draw(&x, n), drawWide(&x), drawWide(&x)
		if draw(&x, 2) == 0 {
			span, now = draw(&x, 20), draw(&x, 20)
		}
		v, p := made(t, n, node, span, now), plainOf(n, node, span, now)
		for range 60 {
			from, at := draw(&x, n+4)-2, draw(&x, 60)
			if draw(&x, 8) == 0 {
				at = drawWide(&x)
			}
			v.Hear(from, at)
			p.hear(from, at)
			stands(t, v, p, at)
			stands(t, v, p, draw(&x, 60))
			stands(t, v, p, drawWide(&x))
		}
		if t.Failed() {
			t.Fatalf("New(%d, %d, %d, %d)", n, node, span, now)
		}
	}
}

// TestAllShortOnes: P16.1, all rows of up to four hearings of three nodes, and one that there is not, at few readings.
func TestAllShortOnes(t *testing.T) {
	var row func(l [][2]int)
	row = func(l [][2]int) {
		v, p := made(t, 3, 1, 2, 1), plainOf(3, 1, 2, 1)
		for _, x := range l {
			v.Hear(x[0], x[1])
			p.hear(x[0], x[1])
		}
		for now := range 7 {
			stands(t, v, p, now)
		}
		if t.Failed() {
			t.Fatalf("%v", l)
		}
		if len(l) == 4 {
			return
		}
		for from := range 4 {
			for now := range 4 {
				row(append(l[:len(l):len(l)], [2]int{from, now}))
			}
		}
	}
	row(nil)
}

// TestAllSmallOnes: P16.1, each view of up to five nodes, at small spans and readings, with one node heard once.
func TestAllSmallOnes(t *testing.T) {
	for n := 1; n <= 5; n++ {
		for node := range n {
			for span := -1; span <= 3; span++ {
				for from := -1; from <= n; from++ {
					for at := -1; at <= 6; at++ {
						v, p := made(t, n, node, span, 1), plainOf(n, node, span, 1)
						v.Hear(from, at)
						p.hear(from, at)
						for now := -2; now <= 10; now++ {
							stands(t, v, p, now)
						}
					}
				}
			}
		}
	}
}
