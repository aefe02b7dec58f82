package demand

import (
	"math"
	"slices"
	"testing"
)

// V1: without estimates there are no keys.
func TestKeysOfNone(t *testing.T) {
	keys(t, "new", with(t))
	keys(t, "nothing spent", with(t, note{5, 0}, note{-5, -1}, note{0, 0}, note{6, math.MinInt}))
	keys(t, "faded", with(t, note{5, 1}, note{5, 0}))
	keys(t, "nil", nil)
}

// V1: keys whose estimate is above 0, rising, each once, in whatever order they were noted.
func TestKeys(t *testing.T) {
	all := manyKeys()
	x := uint64(13)
	for range 300 {
		order := slices.Clone(all)
		for i := range order {
			j := i + draw(&x, len(order)-i)
			order[i], order[j] = order[j], order[i]
		}
		n := draw(&x, len(order)+1)
		d := with(t)
		for range 1 + draw(&x, 3) {
			for _, key := range order[:n] {
				d.Note(key, 1+draw(&x, 9))
			}
		}
		// Of these nothing is spent.
		for _, key := range order[n:] {
			d.Note(key, -draw(&x, 2))
		}
		keys(t, "drawn", d, slices.Sorted(slices.Values(order[:n]))...)
	}
}

// V1: a key is there at an estimate of 1, gone at 0, and there again when something above 0 is noted.
func TestKeysComeAndGo(t *testing.T) {
	for _, key := range manyKeys() {
		d := with(t, note{3, 50}, note{-3, 60})
		both := func(more ...int) []int {
			return slices.Sorted(slices.Values(append(more, 3, -3)))
		}
		for range 3 {
			notes(t, d, key, 3, 3)
			keys(t, "at 3", d, both(key)...)
			notes(t, d, key, 0, 1)
			keys(t, "at 1", d, both(key)...)
			notes(t, d, key, -1, 0)
			keys(t, "at 0", d, both()...)
			notes(t, d, key, 0, 0)
			keys(t, "at 0 again", d, both()...)
			notes(t, d, key, 1, 1)
			keys(t, "back", d, both(key)...)
			notes(t, d, key, 0, 0)
			keys(t, "gone", d, both()...)
		}
		estimates(t, d, 3, 50)
		estimates(t, d, -3, 60)
	}
}

// V1: the last key that goes leaves none; keys go one by one.
func TestKeysGoOneByOne(t *testing.T) {
	d := four(t)
	notes(t, d, 0, 0, 0)
	keys(t, "without 0", d, -7, 5, 65541)
	for range 4 {
		d.Note(5, 0)
	}
	keys(t, "without 5", d, -7, 65541)
	for range 6 {
		d.Note(65541, 0)
	}
	keys(t, "without 65541", d, -7)
	for range 4 {
		d.Note(-7, 0)
	}
	has(t, "without any", d)
}

// spoilt writes into a list, and into the room behind it, and puts more behind it.
func spoilt(l []int) {
	_ = append(l, -77)
	l = l[:cap(l)]
	for i := range l {
		l[i] = -77
	}
	_ = append(l, -77)
}

// of is a Demand of so many keys.
func of(t *testing.T, n int) (*Demand, []note) {
	var want []note
	for key := range n {
		want = append(want, note{key*3 - 10, key + 1})
	}
	return with(t, want...), want
}

// Rule 4: writing into what Keys tells, or appending to it, changes nothing of the Demand, nor of what else was told.
func TestKeysAreNew(t *testing.T) {
	for n := range 20 {
		d, want := of(t, n)
		a, b := d.Keys(), d.Keys()
		was := slices.Clone(b)
		spoilt(a)
		// Ahead of asking the Demand, which might write the same once more.
		if !slices.Equal(b, was) {
			t.Errorf("of %d: another list is %v now, and was %v", n, b, was)
		}
		has(t, "written into", d, want...)
		notes(t, d, 100, 9, 9)
		spoilt(a)
		spoilt(b)
		has(t, "written into", d, append(want, note{100, 9})...)
	}
}

// Rule 4: a later call changes nothing of what Keys told.
func TestKeysStay(t *testing.T) {
	for name, later := range map[string]func(*Demand){
		"noted anew":  func(d *Demand) { d.Note(-11, 5) },
		"noted amid":  func(d *Demand) { d.Note(0, 5); d.Note(1, 5) },
		"noted last":  func(d *Demand) { d.Note(1000, 5) },
		"noted again": func(d *Demand) { d.Note(-10, 50) },
		"one faded":   func(d *Demand) { d.Note(-10, 0) },
		"all faded": func(d *Demand) {
			for _, key := range d.Keys() {
				for range 63 {
					d.Note(key, 0)
				}
			}
		},
		"all faded, and others noted": func(d *Demand) {
			for _, key := range d.Keys() {
				for range 63 {
					d.Note(key, 0)
				}
				d.Note(key+1, 8)
				d.Keys()
			}
		},
		"many noted": func(d *Demand) {
			for key := range 100 {
				d.Note(key-50, 7)
				d.Keys()
			}
		},
	} {
		for n := range 20 {
			d, _ := of(t, n)
			l := d.Keys()
			was := slices.Clone(l)
			later(d)
			if !slices.Equal(l, was) {
				t.Errorf("%s: of %d it told %v, and that is %v now", name, n, was, l)
			}
		}
	}
}
