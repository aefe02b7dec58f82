package lease

import (
	"math"
	"testing"

	"annona/api"
)

// S1: a new wallet is empty, of any key.
func TestNew(t *testing.T) {
	w := New()
	if w == nil {
		t.Fatal("New: nil")
	}
	has(t, "a new one", w)
	for _, key := range edges() {
		left(t, w, key, -1, 0)
		left(t, w, key, 5, 0)
		spends(t, w, key, 1, -1, 0, false)
		closes(t, w, key, 0, -1)
		closes(t, w, key, 1, -1)
		drops(t, w, key, 0)
	}
	has(t, "a new one, asked", w)
}

// P2: two wallets share nothing.
func TestTwoWallets(t *testing.T) {
	a, b := New(), New()
	puts(t, a, of(5, 7, 6, 30), api.OK)
	has(t, "the other one", b)
	left(t, b, 5, 10, 0)
	puts(t, b, of(5, 8, 3, 20), api.OK)
	puts(t, b, of(6, 8, 3, 20), api.OK)
	spends(t, a, 5, 2, 10, 7, true)
	left(t, b, 5, 10, 3)
	has(t, "the first", a, spent(of(5, 7, 6, 30), 2))
	has(t, "the second", b, of(5, 8, 3, 20), of(6, 8, 3, 20))
	drops(t, b, 8, 0)
	closes(t, b, 5, 8, 0)
	has(t, "the first", a, spent(of(5, 7, 6, 30), 2))
	drops(t, b, 9, 1)
	has(t, "the first", a, spent(of(5, 7, 6, 30), 2))
	has(t, "the second", b)
	has(t, "a third", New())
}

// mayBe are leases that may be put.
func mayBe() []Lease {
	l := []Lease{of(5, 1, 6, 30), of(5, 2, 6, 30), of(5, 7, 1, 30), of(5, 7, 2, 30), of(5, 7, 6, 0), of(5, 7, 6, 1), of(5, 1, 1, 0)}
	for _, x := range []int{1<<31 + 1, 1<<40 + 1, end, end + 1, math.MaxInt} {
		l = append(l, of(5, x, 6, 30), of(5, 7, x, 30), of(5, 7, 6, x), of(5, x, x, x))
	}
	return l
}

// mayNot are leases that may not be put, each by one of its ints.
func mayNot() []Lease {
	var l []Lease
	for _, x := range []int{0, -1, -2, -end, math.MinInt + 1, math.MinInt} {
		l = append(l, of(5, x, 6, 30), of(5, 7, x, 30))
	}
	for _, x := range []int{1, 2, 5, 6, 7, end, math.MaxInt, -1, -2, -end, math.MinInt} {
		l = append(l, spent(of(5, 7, 6, 30), x))
	}
	for _, x := range []int{-1, -2, -end, math.MinInt + 1, math.MinInt} {
		l = append(l, of(5, 7, 6, x))
	}
	return append(l, Lease{}, of(5, 0, 0, -1), of(5, -1, 6, -1), spent(of(5, 0, 6, 30), 1))
}

// S1: a lease more, if it may be.
func TestPut(t *testing.T) {
	for _, l := range mayBe() {
		w := New()
		puts(t, w, l, api.OK)
		has(t, "with one", w, l)
		left(t, w, 5, l.Until-1, l.Amount)
		spends(t, w, 5, l.Amount, l.Until-1, l.Gen, true)
		has(t, "with one that is spent up", w, spent(l, l.Amount))
		closes(t, w, 5, l.Gen, l.Amount)
		has(t, "with none", w)
	}
}

// S1: any int is a key, below 0 and at both ends too.
func TestPutKeys(t *testing.T) {
	w := New()
	var want []Lease
	for i, key := range edges() {
		l := of(key, 1+i, 2+i, 3+i)
		puts(t, w, l, api.OK)
		want = append(want, l)
		has(t, "with one more", w, want...)
	}
	for i, key := range edges() {
		left(t, w, key, 2+i, 2+i)
		puts(t, w, of(key, 1, 1, 1), api.ErrTwice)
		spends(t, w, key, 1+i, 2+i, 1+i, true)
		left(t, w, key, 2+i, 1)
		want[i].Spent = 1 + i
	}
	has(t, "with all", w, want...)
}

// S1, rule 3: what may not be put is ErrArg, and changes nothing; ErrArg also where there is one of its key (rule 1).
func TestPutErrArg(t *testing.T) {
	for _, l := range mayNot() {
		w := New()
		puts(t, w, l, api.ErrArg)
		has(t, "an empty one", w)
		puts(t, w, of(5, 7, 6, 30), api.OK)
		puts(t, w, l, api.ErrArg)
		has(t, "one of its key", w, of(5, 7, 6, 30))

		w = three(t)
		puts(t, w, l, api.ErrArg)
		has(t, "three", w, theThree()...)
		for _, key := range []int{6, -3, 65536, math.MinInt, math.MaxInt} {
			l.Key = key
			puts(t, w, l, api.ErrArg)
			has(t, "three", w, theThree()...)
		}
	}
}

// S1, rule 3: a lease of a key that has one is ErrTwice, whatever that one is, and changes nothing.
func TestPutErrTwice(t *testing.T) {
	for _, l := range mayBe() {
		for _, n := range []int{0, 1, 5, 6} {
			for _, until := range []int{1, 10, 30} {
				w := with(t, of(5, 7, 6, until))
				want := of(5, 7, 6, until)
				if n > 0 {
					spends(t, w, 5, n, until-1, 7, true)
					want.Spent = n
				}
				puts(t, w, l, api.ErrTwice)
				puts(t, w, of(5, 7, 6, until), api.ErrTwice)
				has(t, "as it was", w, want)
				left(t, w, 5, until-1, 6-n)
				left(t, w, 5, until, 0)
				// Once more when its Until is over: it stands all the same.
				puts(t, w, l, api.ErrTwice)
				has(t, "as it was", w, want)
			}
		}
	}
	w := with(t, of(5, 7, 6, 0))
	puts(t, w, of(5, 7, 6, 30), api.ErrTwice)
	has(t, "of an Until of 0", w, of(5, 7, 6, 0))
}

// S1: another key's lease is no lease of this key's.
func TestPutBeside(t *testing.T) {
	w := three(t)
	for _, key := range []int{-4, -2, 0, 4, 6, 65535, 65537} {
		puts(t, w, of(key, 3, 3, 3), api.OK)
	}
	has(t, "ten", w,
		of(-4, 3, 3, 3), theThree()[0], of(-2, 3, 3, 3), of(0, 3, 3, 3), of(4, 3, 3, 3), theThree()[1], of(6, 3, 3, 3),
		of(65535, 3, 3, 3), theThree()[2], of(65537, 3, 3, 3))
}

// S1: of a key whose lease is gone, closed or dropped, another one can be put, of which nothing is spent.
func TestPutAgain(t *testing.T) {
	for _, gone := range []func(*Wallet) int{
		func(w *Wallet) int { return w.Close(5, 7) },
		func(w *Wallet) int { return w.Close(5, 6) },
		func(w *Wallet) int { return w.Drop(8) },
	} {
		for _, next := range []Lease{of(5, 7, 6, 30), of(5, 1, 2, 9), of(5, 9, 20, 90)} {
			w := with(t, of(5, 7, 6, 30))
			spends(t, w, 5, 4, 10, 7, true)
			puts(t, w, next, api.ErrTwice)
			gone(w)
			has(t, "gone", w)
			puts(t, w, next, api.OK)
			has(t, "put again", w, next)
			left(t, w, 5, 8, next.Amount)
			spends(t, w, 5, next.Amount, 8, next.Gen, true)
			puts(t, w, next, api.ErrTwice)
			closes(t, w, 5, next.Gen, next.Amount)
		}
	}
}

// A wallet that New did not make is an empty one, too.
func TestZeroWallet(t *testing.T) {
	var w Wallet
	has(t, "a zero one", &w)
	left(t, &w, 5, 1, 0)
	spends(t, &w, 5, 1, 1, 0, false)
	closes(t, &w, 5, 7, -1)
	drops(t, &w, 7, 0)
	puts(t, &w, of(5, 7, 6, 30), api.OK)
	spends(t, &w, 5, 1, 1, 7, true)
	has(t, "a zero one, put into", &w, spent(of(5, 7, 6, 30), 1))
}

// S1, rule 8: a nil wallet tells ErrArg, 0, false, -1, and nothing, whatever it is asked.
func TestNil(t *testing.T) {
	var w *Wallet
	for _, l := range append(mayBe(), mayNot()...) {
		puts(t, w, l, api.ErrArg)
		has(t, "nil", w)
	}
	for _, a := range edges() {
		drops(t, w, a, 0)
		for _, b := range edges() {
			left(t, w, a, b, 0)
			closes(t, w, a, b, -1)
			for _, c := range edges() {
				spends(t, w, a, b, c, 0, false)
			}
		}
	}
	has(t, "nil", w)
}
