package lease

import (
	"math"
	"slices"
	"testing"

	"annona/api"
)

// S1: all leases, by keys, rising, in whatever order they were put; each with what was spent of it.
func TestAll(t *testing.T) {
	keys := []int{math.MinInt, -65536, -10, -9, -1, 0, 1, 2, 9, 10, 11, 65536, math.MaxInt}
	x := uint64(11)
	for range 200 {
		order := slices.Clone(keys)
		for i := range order {
			j := i + draw(&x, len(order)-i)
			order[i], order[j] = order[j], order[i]
		}
		w := New()
		var want []Lease
		for i, key := range order {
			l := of(key, 1+draw(&x, 9), 5+i, 30)
			puts(t, w, l, api.OK)
			if n := draw(&x, 6); n > 0 {
				spends(t, w, key, n, 20, l.Gen, true)
				l.Spent = n
			}
			want = append(want, l)
		}
		for _, key := range keys {
			if draw(&x, 4) == 0 {
				w.Close(key, 1)
				want = slices.DeleteFunc(want, func(l Lease) bool { return l.Key == key })
			}
		}
		slices.SortFunc(want, func(a, b Lease) int {
			if a.Key < b.Key {
				return -1
			}
			return 1
		})
		has(t, "all", w, want...)
	}
}

// S1: of an empty wallet a list without elements.
func TestAllOfNone(t *testing.T) {
	w := New()
	has(t, "a new one", w)
	puts(t, w, of(5, 7, 6, 30), api.OK)
	closes(t, w, 5, 7, 0)
	has(t, "one whose lease is gone", w)
}

// spoil writes into a list, and into the room behind it, and puts more behind it.
func spoil(l []Lease) {
	_ = append(l, of(77, 77, 77, 77))
	l = l[:cap(l)]
	for i := range l {
		l[i] = Lease{-77, -77, -77, -77, -77}
	}
	_ = append(l, of(78, 78, 78, 78))
}

// Rule 4: what All tells is new memory: writing into it changes nothing of the wallet, nor of what else was told.
func TestAllIsNew(t *testing.T) {
	w := three(t)
	a, b := w.All(), w.All()
	spoil(a)
	has(t, "written into", w, theThree()...)
	if !slices.Equal(b, theThree()) {
		t.Errorf("another list: %v", b)
	}
	left(t, w, -3, 19, 4)
	spends(t, w, 5, 6, 29, 7, true)
	puts(t, w, of(-77, 1, 1, 1), api.OK)
	puts(t, w, of(77, 1, 1, 1), api.OK)
}

// Rule 4: a later call on the wallet changes nothing of what All told.
func TestAllStays(t *testing.T) {
	for name, call := range map[string]func(w *Wallet){
		"put":     func(w *Wallet) { puts(t, w, of(0, 1, 1, 1), api.OK) },
		"spent":   func(w *Wallet) { spends(t, w, 5, 2, 29, 7, true) },
		"closed":  func(w *Wallet) { closes(t, w, -3, 4, 5) },
		"dropped": func(w *Wallet) { drops(t, w, math.MaxInt, 3) },
		"put again": func(w *Wallet) {
			closes(t, w, 5, 1, -1)
			puts(t, w, of(5, 9, 9, 9), api.OK)
		},
	} {
		w := three(t)
		l := w.All()
		call(w)
		if !slices.Equal(l, theThree()) {
			t.Errorf("%s: %v is told now", name, l)
		}
		if slices.Equal(w.All(), l) {
			t.Errorf("%s: nothing is changed", name)
		}
	}
}
