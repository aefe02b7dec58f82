package disk

import (
	"slices"
	"testing"

	"annona/api"
)

// tried does an act with a disk and with the plain one, and holds them against each other; of a crash, P6.2 too.
func tried(t *testing.T, d *Disk, p *plain, a act, from byte) int {
	t.Helper()
	was, safe := d.File(), d.Safe()
	got, want := a.onDisk(d, from), a.onPlain(p, from)
	if got != want {
		t.Errorf("room %d, %v, of which %d are safe, act %v: %d, not %d", p.room, was, safe, a, got, want)
	}
	file, safeNow := p.tells()
	has(t, "beside a plain one", d, file, safeNow)
	if a.how == toCrash {
		stays(t, "behind a crash", d, was, safe)
	}
	return got
}

// TestBesideAPlainOne: D1 and P6.2, many acts in any order, on disks of small rooms.
func TestBesideAPlainOne(t *testing.T) {
	seed := uint64(6)
	var full, fit int
	for room := range 24 {
		for range 12 {
			d, p := made(t, room), &plain{room: room}
			for i := range 150 {
				a := drawn(&seed, room)
				got := tried(t, d, p, a, byte(i*7))
				if a.how == toWrite || a.how == toReplace {
					if api.Errno(got) == api.ErrFull {
						full++
					} else {
						fit++
					}
				}
				if t.Failed() {
					t.FailNow()
				}
			}
		}
	}
	if full < 4000 || fit < 4000 {
		t.Errorf("of the acts too few were of a kind: %d, %d", full, fit)
	}
}

// TestAllShortOnes: D1 and P6.2, each row of four acts out of all kinds, on the smallest rooms.
func TestAllShortOnes(t *testing.T) {
	for room := range 5 {
		l := []act{{toSync, 0}}
		for n := range 4 {
			l = append(l, act{toWrite, n}, act{toCrash, n - 1})
		}
		for n := range room + 2 {
			l = append(l, act{toReplace, n})
		}
		row := make([]int, 4)
		for range len(l) * len(l) * len(l) * len(l) {
			d, p := made(t, room), &plain{room: room}
			for i, k := range row {
				tried(t, d, p, l[k], byte(i*16+1))
			}
			if t.Failed() {
				t.Fatalf("room %d, row %v of %v", room, row, l)
			}
			step(row, len(l))
		}
	}
}

// step is the next row of numbers below n.
func step(row []int, n int) {
	for i := range row {
		row[i]++
		if row[i] < n {
			return
		}
		row[i] = 0
	}
}

// TestWhatIsSafeStays: P6.2 by what it says: any acts, and a crash at any place, with any keep.
func TestWhatIsSafeStays(t *testing.T) {
	seed := uint64(8)
	for room := range 16 {
		for range 12 {
			var l []act
			for range 14 {
				l = append(l, drawn(&seed, room))
			}
			for n := range len(l) + 1 {
				loose := len(done(t, room, l[:n]).File()) - done(t, room, l[:n]).Safe()
				for _, keep := range keeps(loose) {
					d := done(t, room, l[:n])
					was, safe := d.File(), d.Safe()
					gone := d.Crash(keep)
					stays(t, "a crash at any place", d, was, safe)
					if len(d.File()) != len(was)-gone || gone != loose-min(max(keep, 0), loose) {
						t.Errorf("of %d loose ones, with keep %d, %d are gone", loose, keep, gone)
					}
				}
			}
		}
	}
}

// done is a disk with which these acts were done.
func done(t *testing.T, room int, l []act) *Disk {
	t.Helper()
	d := made(t, room)
	for i, a := range l {
		a.onDisk(d, byte(i*17))
	}
	return d
}

// TestApart: P2, two disks know nothing of each other.
func TestApart(t *testing.T) {
	a, b := made(t, 6), made(t, 4)
	same := []byte("abcd")
	put(t, "the first", a.Replace(same), api.OK)
	put(t, "the second", b.Write(same), api.OK)
	put(t, "the first", a.Write([]byte("xy")), api.OK)
	put(t, "the second", b.Write([]byte("x")), api.ErrFull)
	has(t, "the first", a, "abcdxy", 4)
	has(t, "the second", b, "abcd", 0)
	count(t, "the second's Crash", b.Crash(1), 3)
	put(t, "the second", b.Write([]byte("123")), api.OK)
	has(t, "the first", a, "abcdxy", 4)
	has(t, "the second", b, "a123", 1)
	count(t, "the first's Sync", a.Sync(), 2)
	count(t, "the second's Sync", b.Sync(), 3)
}

// everyCall is what all calls tell at all kinds of arguments, in drawn orders, on disks of all rooms and on nil ones.
func everyCall() []int {
	var out []int
	seed := uint64(9)
	for _, room := range keeps(40) {
		d, err := New(room)
		out = append(out, int(err))
		for i := range 200 {
			a := drawn(&seed, 40)
			out = append(out, a.onDisk(d, byte(i)), d.Safe(), len(d.File()))
			for _, b := range d.File() {
				out = append(out, int(b))
			}
		}
	}
	return out
}

// TestArgumentsAlone: P1, every call ends and none panics; P2, what it answers hangs on its arguments and the calls ahead of it alone.
func TestArgumentsAlone(t *testing.T) {
	if !slices.Equal(everyCall(), everyCall()) {
		t.Error("the same calls told something else")
	}
}
