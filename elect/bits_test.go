package elect

import (
	"math"
	"testing"
)

// TestNobodysBitsAreTold: R1, bits of nodes that there are not are kept, and told as they came, of a ballot that it stands with.
func TestNobodysBitsAreTold(t *testing.T) {
	for n := 2; n < 64; n++ {
		for _, node := range []int{0, n / 2, n - 1} {
			ballot := 2*n + node
			e := stood(t, n, node, n+node)
			came := of(node)
			for i := n; i < 64; i++ {
				came |= 1 << i
				takes(t, e, ballot, 1<<i, Result{Gen: ballot, Bits: came})
			}
			bitsAre(t, e, ballot, came)
		}
	}
}

// TestNobodysBitsWinNothing: R1, no majority counts bits of nodes that there are not, all of them either; a majority of the ring's does win.
func TestNobodysBitsWinNothing(t *testing.T) {
	for n := 2; n < 64; n++ {
		for _, node := range []int{0, n / 2, n - 1} {
			ballot := n + node
			e := stood(t, n, node, 0)
			few := of(node)
			for k := 1; 2*(k+1) <= n; k++ {
				few |= of((node + k) % n)
			}
			nobody := from(n, 64)
			takes(t, e, ballot, few|nobody, Result{Gen: ballot, Bits: few | nobody})
			has(t, e, ballot, 1, ballot)
			one := of((node + n - 1) % n)
			takes(t, e, ballot, one, Result{Gen: ballot, Bits: few | nobody | one, Won: true})
			has(t, e, ballot, 1, 0)
		}
	}
}

// TestNobodysBitsGoOn: R1, they go on with a greater ballot, as they came.
func TestNobodysBitsGoOn(t *testing.T) {
	for n := 1; n < 64; n++ {
		for i := n; i < 64; i++ {
			e := made(t, n, n-1, 0, 0)
			takes(t, e, 9, 1<<i, Result{Send: true, Gen: 9, Bits: 1<<i | of(n-1)})
			takes(t, e, 10, from(n, 64), Result{Send: true, Gen: 10, Bits: from(n-1, 64)})
			has(t, e, 10, 0, 0)
		}
	}
}

// TestAllBits: R1, all 64 bits are taken, told and counted, where there are 64 nodes.
func TestAllBits(t *testing.T) {
	for node := range 64 {
		e := stood(t, 64, node, 0)
		ballot := 64 + node
		came := of(node)
		for k := 1; k < 64; k++ {
			// Five at a time, so that each other node comes once, in no rising order.
			one := of((node + 5*k) % 64)
			came |= one
			if k > 32 {
				takes(t, e, ballot, came, none)
				continue
			}
			takes(t, e, ballot, one, Result{Gen: ballot, Bits: came, Won: k == 32})
		}
		e = made(t, 64, node, 0, 0)
		takes(t, e, 70, math.MaxUint64, Result{Send: true, Gen: 70, Bits: math.MaxUint64})
		e = stood(t, 64, node, 0)
		takes(t, e, ballot, math.MaxUint64, Result{Gen: ballot, Bits: math.MaxUint64, Won: true})
	}
}

// TestEachBitAlone: R1, each bit that comes is that node's: of two nodes, whose own bit is no majority, the other one's wins, and no other bit.
func TestEachBitAlone(t *testing.T) {
	for node := range 2 {
		for i := range 64 {
			e := stood(t, 2, node, 0)
			ballot := 2 + node
			won := i == 1-node
			takes(t, e, ballot, 1<<i, Result{Gen: ballot, Bits: of(node) | 1<<i, Won: won})
		}
	}
}
