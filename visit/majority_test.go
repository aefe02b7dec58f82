package visit

import (
	"testing"

	"annona/api"
	"annona/token"
)

// drawnStamps are stamps of n nodes near a reading, near one older than it by a span, or any that may be.
func drawnStamps(x *uint64, n, at, span int) []int {
	var l []int
	for range n {
		s := 0
		switch draw(x, 6) {
		case 0:
			s = -1
		case 1:
			s = drawNear(x, 99)
		case 2:
			s = at - draw(x, 3)
		default:
			s = at - span + 1 - draw(x, 4)
		}
		l = append(l, min(end-1, max(-1, s)))
	}
	return l
}

// drawnAt is a reading that may be.
func drawnAt(x *uint64) int {
	return min(end-1, max(0, drawNear(x, 90)))
}

// wanting is an edge with leases, estimates, and who waits, of the keys of drawn tokens.
func wanting(t *testing.T, r *ring, x *uint64, at int) {
	t.Helper()
	for node := range r.c.N {
		for range 6 {
			r.ask(t, node, drawnRequest(x), at)
		}
		for _, key := range []int{1, 2, policy} {
			l := of(key, 1+draw(x, 3), 4, draw(x, 5), end)
			put(t, r.edges[node], l)
			r.plain[node].leases[key] = l
		}
	}
}

// TestNeverWithoutMajority: P18.3 by what it says: over drawn tokens and readings, whenever the token behind the visit is not valid, nothing is granted, answered or changed but the stamp.
func TestNeverWithoutMajority(t *testing.T) {
	x := uint64(183)
	is, isNot, answered := 0, 0, 0
	for range 3000 {
		n := []int{1, 2, 3, 4, 5, 7, 64}[draw(&x, 7)]
		at, c := drawnAt(&x), drawnConf(&x, n)
		r := ringOf(t, c, drawnToken(&x, n, at))
		wanting(t, r, &x, at)
		for range 8 {
			node := draw(&x, n)
			l := drawnToken(&x, n, at)
			l.Stamps = drawnStamps(&x, n, at, c.Valid)
			r.give(l)
			ahead := stateOf(r.edges[node])
			answers := r.visit(t, node, at)
			want := copied(l)
			want.Stamps[node] = at
			if token.Valid(want, at, c.Valid) != plainly(want).valid(at, c.Valid) {
				t.Fatalf("%v at %d, for %d: is it valid?", want, at, c.Valid)
			}
			if plainly(want).valid(at, c.Valid) {
				is++
				answered += len(answers)
				continue
			}
			isNot++
			if len(answers) > 0 || !sameToken(r.token, want) || !sameState(stateOf(r.edges[node]), ahead) {
				t.Fatalf("%v, node %d at %d, for %d: %v is told, %v answered, and the edge is %v, behind %v", l, node, at, c.Valid, r.token, answers, stateOf(r.edges[node]), ahead)
			}
		}
	}
	if is < 4000 || isNot < 4000 || answered < 4000 {
		t.Errorf("only %d are valid, with %d answers, and %d are not", is, answered, isNot)
	}
}

// TestMajorityOfAny: P18.3, of all sets of up to six nodes that stamped it of late: it grants, if and only if these, with the node that is visited, are more than half.
func TestMajorityOfAny(t *testing.T) {
	for n := 1; n <= 6; n++ {
		c := sized(n)
		for set := range 1 << n {
			for node := range n {
				l := tokenOf()
				l.Stamps = nil
				young := 1
				for i := range n {
					s := now - 11 - i
					if set>>i&1 == 1 {
						s = now - 10 + i
						if i != node {
							young++
						}
					}
					l.Stamps = append(l.Stamps, s)
				}
				e := asked(t, c, request(1, 5, 3))
				want := copied(l)
				want.Stamps[node] = now
				var answers []api.Answer
				if 2*young > n {
					want.Table.Rows = []api.Row{rowOf(5, 6, now, to(node, 3))}
					answers = append(answers, yes(1, gen))
				}
				visitsAt(t, l, e, node, now, c, want, answers...)
			}
		}
	}
}
