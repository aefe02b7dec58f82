package elect

import "testing"

// TestRaise: R1, what is above what it promised, and at most 2^40, is promised: true; the round stays.
func TestRaise(t *testing.T) {
	for _, x := range places() {
		for _, promised := range []int{0, 1, 2, 64, 1 << 32, top - 2, top - 1} {
			for _, gen := range []int{1, 2, 3, promised + 1, promised + 2, promised + 64, 1 << 33, top - 1, top} {
				if gen <= promised || gen > top {
					continue
				}
				e := made(t, x[0], x[1], promised, 5)
				raises(t, e, gen, true)
				has(t, e, gen, 5, 0)
				raises(t, e, gen, false)
				has(t, e, gen, 5, 0)
			}
		}
	}
}

// TestRaiseNot: R1, what it promised, below it, and above 2^40: false, and nothing changes.
func TestRaiseNot(t *testing.T) {
	for _, x := range greater() {
		n, node := x[0], x[1]
		for _, promised := range []int{0, 1, 2, 64, 1000, 1 << 32, top - 1, top} {
			e := made(t, n, node, promised, 5)
			for _, gen := range append(notAbove(promised), promised) {
				raises(t, e, gen, false)
			}
			has(t, e, promised, 5, 0)
			if promised > top-2*n {
				continue
			}
			e = stood(t, n, node, promised)
			ballot := next(n, promised, node)
			for _, gen := range append(notAbove(ballot), ballot) {
				raises(t, e, gen, false)
			}
			has(t, e, ballot, ballot/n, ballot)
			bitsAre(t, e, ballot, of(node))
		}
	}
}

// TestRaiseWhileStanding: R1, one that stands, and promises more, stands no more: frames of its ballot, and of what it promised, are nothing.
func TestRaiseWhileStanding(t *testing.T) {
	for _, x := range greater() {
		n, node := x[0], x[1]
		for _, more := range []int{1, n, 1 << 32} {
			e := stood(t, n, node, 9)
			ballot := next(n, 9, node)
			raises(t, e, ballot+more, true)
			has(t, e, ballot+more, ballot/n, 0)
			takes(t, e, ballot, from(0, n), none)
			takes(t, e, ballot+more, from(0, n), none)
			has(t, e, ballot+more, ballot/n, 0)
			takes(t, e, ballot+more+1, 0, Result{Send: true, Gen: ballot + more + 1, Bits: of(node)})
		}
	}
}

// TestRaiseOfOneThatIsNoBallot: R1, a generation below n, of which no ballot is, is promised as any other one.
func TestRaiseOfOneThatIsNoBallot(t *testing.T) {
	for gen := 1; gen < 64; gen++ {
		e := made(t, 64, 3, gen-1, 0)
		raises(t, e, gen, true)
		has(t, e, gen, 0, 0)
		e = made(t, 64, 3, gen-1, 0)
		takes(t, e, gen, 0, Result{Send: true, Gen: gen, Bits: of(3)})
		has(t, e, gen, 0, 0)
	}
}

// TestPromisedRises: R1, P17.2, behind each call what is promised is the greatest ballot that came, or that it stood with.
func TestPromisedRises(t *testing.T) {
	e := made(t, 3, 1, 0, 0)
	raises(t, e, 2, true)
	has(t, e, 2, 0, 0)
	takes(t, e, 1, 7, none)
	has(t, e, 2, 0, 0)
	stands(t, e, Result{Send: true, Gen: 4, Bits: of(1)})
	has(t, e, 4, 1, 4)
	takes(t, e, 3, 7, none)
	raises(t, e, 3, false)
	has(t, e, 4, 1, 4)
	takes(t, e, 4, of(2), Result{Gen: 4, Bits: of(1, 2), Won: true})
	has(t, e, 4, 1, 0)
	takes(t, e, 6, of(0), Result{Send: true, Gen: 6, Bits: of(0, 1)})
	has(t, e, 6, 1, 0)
	raises(t, e, 8, true)
	takes(t, e, 7, of(1), none)
	has(t, e, 8, 1, 0)
	stands(t, e, Result{Send: true, Gen: 10, Bits: of(1)})
	has(t, e, 10, 3, 10)
	raises(t, e, 11, true)
	has(t, e, 11, 3, 0)
}
