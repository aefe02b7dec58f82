package disk

import (
	"bytes"
	"math"
	"testing"

	"annona/api"
)

// most is for how many bytes a disk may have room, by the chapter's words.
const most = 16777216

// keeps are what a Crash is told here of a disk with so many loose bytes: at and beside all that counts.
func keeps(loose int) []int {
	return []int{math.MinInt, math.MinInt + 1, -most, -2, -1, 0, 1, 2, loose / 2, loose - 2, loose - 1, loose, loose + 1, loose + 2, most, math.MaxInt - 1, math.MaxInt}
}

// draw is a fixed rule's next, below n: the same ones each time.
func draw(x *uint64, n int) int {
	*x = *x*6364136223846793005 + 1442695040888963407
	return int(*x >> 33 % uint64(n))
}

// rising are n bytes, of which no two that stand close are the same.
func rising(from byte, n int) []byte {
	l := make([]byte, n)
	for i := range l {
		l[i] = from + byte(i)
	}
	return l
}

// made is a new disk with so much room.
func made(t *testing.T, room int) *Disk {
	t.Helper()
	d, err := New(room)
	if err != api.OK || d == nil {
		t.Fatalf("New(%d): %v, error %d", room, d, err)
	}
	return d
}

// of is a disk with these safe bytes, and these loose ones behind them.
func of(t *testing.T, room int, safe, loose string) *Disk {
	t.Helper()
	d := made(t, room)
	if err := d.Write([]byte(safe)); err != api.OK {
		t.Fatalf("Write of %q: error %d", safe, err)
	}
	if n := d.Sync(); n != len(safe) {
		t.Fatalf("Sync of %q: %d", safe, n)
	}
	if err := d.Write([]byte(loose)); err != api.OK {
		t.Fatalf("Write of %q: error %d", loose, err)
	}
	has(t, "a disk as it is made", d, safe+loose, len(safe))
	return d
}

// has holds that a disk has this file, and so many safe bytes; asked twice, since asking must change nothing.
func has(t *testing.T, name string, d *Disk, file string, safe int) {
	t.Helper()
	for range 2 {
		if got := d.File(); string(got) != file {
			t.Errorf("%s: the file is %q, not %q", name, cut(got), cut([]byte(file)))
		}
		if got := d.Safe(); got != safe {
			t.Errorf("%s: %d are safe, not %d", name, got, safe)
		}
	}
}

// cut is so much of a file as one wants to read.
func cut(b []byte) []byte {
	return b[:min(len(b), 60)]
}

// put holds what Write, or Replace, tells.
func put(t *testing.T, name string, got, want api.Errno) {
	t.Helper()
	if got != want {
		t.Errorf("%s: error %d, not %d", name, got, want)
	}
}

// count holds what Sync, or Crash, tells.
func count(t *testing.T, name string, got, want int) {
	t.Helper()
	if got != want {
		t.Errorf("%s: %d, not %d", name, got, want)
	}
}

// place is one byte of a plain file, and whether it is safe.
type place struct {
	b    byte
	safe bool
}

// plain is a disk that is reckoned byte by byte, as the chapter's words tell it.
type plain struct {
	room int
	file []place
}

// write puts the bytes one by one behind what was, and takes it back if one has no place.
func (p *plain) write(was []place, b []byte, safe bool) api.Errno {
	file := append([]place{}, was...)
	for _, x := range b {
		if len(file) == p.room {
			return api.ErrFull
		}
		file = append(file, place{x, safe})
	}
	p.file = file
	return api.OK
}

// sync makes each byte safe.
func (p *plain) sync() int {
	n := 0
	for i := range p.file {
		if !p.file[i].safe {
			n++
		}
		p.file[i].safe = true
	}
	return n
}

// crash goes along the file: a loose byte stays while keep is above 0.
func (p *plain) crash(keep int) int {
	var file []place
	gone := 0
	for _, x := range p.file {
		switch {
		case x.safe:
			file = append(file, x)
		case keep > 0:
			file = append(file, place{x.b, true})
			keep--
		default:
			gone++
		}
	}
	p.file = file
	return gone
}

// tells is its file, and how many bytes are safe.
func (p *plain) tells() (string, int) {
	var file []byte
	safe := 0
	for _, x := range p.file {
		file = append(file, x.b)
		if x.safe {
			safe++
		}
	}
	return string(file), safe
}

// The acts.
const (
	toWrite = iota
	toSync
	toReplace
	toCrash
	howMany
)

// act is something that is done with a disk: with so many bytes, or with a keep.
type act struct {
	how, n int
}

// onDisk does it; which bytes they are says from.
func (a act) onDisk(d *Disk, from byte) int {
	switch a.how {
	case toWrite:
		return int(d.Write(rising(from, a.n)))
	case toSync:
		return d.Sync()
	case toReplace:
		return int(d.Replace(rising(from, a.n)))
	}
	return d.Crash(a.n)
}

// onPlain does it with the plain one.
func (a act) onPlain(p *plain, from byte) int {
	switch a.how {
	case toWrite:
		return int(p.write(p.file, rising(from, a.n), false))
	case toSync:
		return p.sync()
	case toReplace:
		return int(p.write(nil, rising(from, a.n), true))
	}
	return p.crash(a.n)
}

// drawn is an act on a disk with so much room, that fits often, and often not.
func drawn(seed *uint64, room int) act {
	a := act{how: draw(seed, howMany)}
	switch a.how {
	case toWrite, toReplace:
		a.n = draw(seed, room/2+3)
		if draw(seed, 8) == 0 {
			a.n = room + draw(seed, 3)
		}
	case toCrash:
		l := keeps(draw(seed, room+1))
		a.n = l[draw(seed, len(l))]
	}
	return a
}

// stays holds P6.2 of a disk that crashed: what was safe begins the file, which is a beginning of what it was.
func stays(t *testing.T, name string, d *Disk, was []byte, safe int) {
	t.Helper()
	is := d.File()
	if !bytes.HasPrefix(is, was[:safe]) || !bytes.HasPrefix(was, is) {
		t.Errorf("%s: %v is the file, that was %v, of which %d were safe", name, is, was, safe)
	}
	if d.Safe() != len(is) {
		t.Errorf("%s: of %d that stay %d are safe", name, len(is), d.Safe())
	}
}
