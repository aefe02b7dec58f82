package demand

import (
	"math"
	"slices"
	"testing"
)

// halved is a number halved so often, each time rounded down.
func halved(x, times int) int {
	for range times {
		x /= 2
	}
	return x
}

// faded is a key's estimate by P13.2 alone: the greatest of all that was noted of it, each halved as often as something was noted of it since.
func faded(l []note, key int) int {
	most, since := 0, 0
	for _, x := range slices.Backward(l) {
		if x.key != key {
			continue
		}
		most = max(most, halved(int(number(x.spent).Int64()), since))
		since++
	}
	return most
}

// P13.2 by what it says: over drawn notes of several keys.
func TestFadesByWhatItSays(t *testing.T) {
	x := uint64(41)
	old, zero := 0, 0
	for range 300 {
		d := with(t)
		var l []note
		for range 1 + draw(&x, 150) {
			y := drawNote(&x)
			l = append(l, y)
			want := faded(l, y.key)
			notes(t, d, y.key, y.spent, want)
			if want > max(y.spent, 0) {
				old++
			}
			if want == 0 {
				zero++
			}
		}
		for _, y := range l {
			estimates(t, d, y.key, faded(l, y.key))
			if slices.Contains(d.Keys(), y.key) != (faded(l, y.key) > 0) {
				t.Fatalf("keys %v, and %d has %d", d.Keys(), y.key, faded(l, y.key))
			}
		}
	}
	if old < 3000 || zero < 20 {
		t.Errorf("%d stood on something older, %d were 0", old, zero)
	}
}

// P13.2: as long as only nothing is spent, an estimate is halved each time, down to 0.
func TestFadesByHalves(t *testing.T) {
	for _, from := range edges() {
		for _, key := range []int{math.MinInt, -5, 0, 5, math.MaxInt} {
			d := with(t, note{key, from})
			for times := range 70 {
				left := halved(d.Of(key), 1)
				notes(t, d, key, -(times % 3), left)
			}
			has(t, "at last", d)
		}
	}
}

// P13.2: behind 63 notes of 0 it is 0, from 2^62 too; behind 62 it is 1.
func TestGoneBehind63(t *testing.T) {
	for _, most := range []int{end, end + 1, math.MaxInt} {
		d := with(t, note{5, most}, note{6, 3})
		for i := range 62 {
			notes(t, d, 5, 0, end>>(i+1))
		}
		has(t, "behind 62", d, note{5, 1}, note{6, 3})
		notes(t, d, 5, 0, 0)
		has(t, "behind 63", d, note{6, 3})
		notes(t, d, 5, 0, 0)
		has(t, "behind 64", d, note{6, 3})
	}
	d := with(t, note{5, end - 1})
	for i := range 61 {
		notes(t, d, 5, 0, (end-1)>>(i+1))
	}
	has(t, "one less, behind 61", d, note{5, 1})
	notes(t, d, 5, 0, 0)
	has(t, "one less, behind 62", d)
}

// P13.2: behind 63 notes of 0 it is 0, whatever was noted ahead of them, and of other keys amid them.
func TestGoneWhateverWas(t *testing.T) {
	x := uint64(42)
	for range 300 {
		d := with(t)
		var l []note
		for range draw(&x, 40) {
			l = append(l, drawNote(&x))
			d.Note(l[len(l)-1].key, l[len(l)-1].spent)
		}
		for range 63 {
			d.Note(7, 0)
			y := drawNote(&x)
			if y.key != 7 {
				d.Note(y.key, y.spent)
			}
		}
		estimates(t, d, 7, 0)
		if slices.Contains(d.Keys(), 7) {
			t.Fatalf("keys %v", d.Keys())
		}
	}
}

// V1: many calls in any order, beside a plain one.
func TestBesideAPlainOne(t *testing.T) {
	x := uint64(43)
	for range 300 {
		d, p := with(t), &plain{}
		for range 100 {
			y := drawNote(&x)
			notes(t, d, y.key, y.spent, p.note(y.key, y.spent))
			key, queued, most := drawNote(&x).key, drawSpent(&x), drawSpent(&x)
			wants(t, d, key, queued, most, p.want(key, queued, most))
			stands(t, "behind a note", d, p)
		}
	}
}

// V1: each row of five notes out of these, beside a plain one.
func TestAllShortOnes(t *testing.T) {
	l := []note{{1, 0}, {1, 1}, {1, 2}, {1, 5}, {-1, 0}, {-1, 1}, {-1, 3}, {1, -4}}
	row := make([]int, 5)
	for range len(l) * len(l) * len(l) * len(l) * len(l) {
		d, p := with(t), &plain{}
		for _, k := range row {
			notes(t, d, l[k].key, l[k].spent, p.note(l[k].key, l[k].spent))
		}
		stands(t, "behind a row", d, p)
		for i := range row {
			row[i] = (row[i] + 1) % len(l)
			if row[i] > 0 {
				break
			}
		}
	}
}

// everyCall is what all calls tell, in drawn orders, of some Demands and of a nil one.
func everyCall(t *testing.T) []int {
	var out []int
	x := uint64(44)
	for _, d := range []*Demand{with(t), four(t), nil, with(t)} {
		for range 2000 {
			y := drawNote(&x)
			out = append(out, d.Note(y.key, y.spent), d.Of(y.key))
			out = append(out, d.Want(drawNote(&x).key, drawSpent(&x), drawSpent(&x)))
			l := d.Keys()
			out = append(out, len(l))
			out = append(out, l...)
		}
	}
	return out
}

// P1, P2: every call ends, and what it tells hangs on its arguments and the calls ahead of it alone.
func TestArgumentsAlone(t *testing.T) {
	want := everyCall(t)
	for range 5 {
		if !slices.Equal(everyCall(t), want) {
			t.Fatal("the same calls told something else")
		}
	}
}

// P1, P2: each call at all edges, of one Demand that is turned all along, beside a plain one, and of a nil one.
func TestAllEnd(t *testing.T) {
	d, p := with(t), &plain{}
	var none *Demand
	for _, a := range edges() {
		for _, b := range edges() {
			notes(t, d, a, b, p.note(a, b))
			notes(t, d, b, a, p.note(b, a))
			wants(t, d, a, b, a, p.want(a, b, a))
			wants(t, d, b, b, a, p.want(b, b, a))
			none.Note(a, b)
			none.Want(a, b, a)
		}
		stands(t, "behind notes", d, p)
	}
	has(t, "nil", none)
}
