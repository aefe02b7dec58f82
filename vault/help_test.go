package vault

import (
	"math"
	"slices"
	"testing"

	"annona/api"
	"annona/disk"
)

// By the chapter's words: how great a number may be, how many bytes a record has, and how many stay.
const (
	greatest = 1099511627776
	bytesOf  = 32
	stayMost = 64
)

// roomy is a room that no test here fills.
const roomy = 1 << 20

// place is one of a state's four numbers.
type place struct {
	name string
	of   func(s *State) *int
}

// places are the four, in their order.
func places() []place {
	return []place{
		{"PROMISED", func(s *State) *int { return &s.Promised }},
		{"GEN", func(s *State) *int { return &s.Gen }},
		{"HOP", func(s *State) *int { return &s.Hop }},
		{"ROUND", func(s *State) *int { return &s.Round }},
	}
}

// with is a state with another number at a place.
func with(s State, p place, x int) State {
	*p.of(&s) = x
	return s
}

// draw is a fixed rule's next, below n: the same ones each time.
func draw(x *uint64, n int) int {
	*x = *x*6364136223846793005 + 1442695040888963407
	return int(*x >> 33 % uint64(n))
}

// plainNumber is a number's eight bytes, the highest first, worked out one by one by dividing.
func plainNumber(x uint64) []byte {
	l := make([]byte, 8)
	for i := 7; i >= 0; i-- {
		l[i] = byte(x % 256)
		x /= 256
	}
	return l
}

// plainRecord is what four numbers are as bytes, whether they may be a state's or not.
func plainRecord(l ...uint64) []byte {
	return slices.Concat(plainNumber(l[0]), plainNumber(l[1]), plainNumber(l[2]), plainNumber(l[3]))
}

// plainFile is what states are as bytes, one behind the other.
func plainFile(l ...State) []byte {
	var out []byte
	for _, s := range l {
		out = append(out, plainRecord(uint64(s.Promised), uint64(s.Gen), uint64(s.Hop), uint64(s.Round))...)
	}
	return out
}

// plainRises is Rises by the words: none of PROMISED and ROUND is less there, and GEN and HOP, GEN first, are not less.
func plainRises(a, b State) bool {
	if b.Promised < a.Promised || b.Round < a.Round {
		return false
	}
	if b.Gen != a.Gen {
		return b.Gen > a.Gen
	}
	return b.Hop >= a.Hop
}

// plainRight tells whether all four numbers are from 0 to 2^40.
func plainRight(s State) bool {
	for _, p := range places() {
		if x := *p.of(&s); x < 0 || x > greatest {
			return false
		}
	}
	return true
}

// upTo are n states, each of which the one ahead rises to: number i tells that it is the i-th one.
func upTo(n int) []State {
	var l []State
	for i := 1; i <= n; i++ {
		l = append(l, State{Promised: i + 5, Gen: i/3 + 1, Hop: i, Round: i * 256})
	}
	return l
}

// made is a new disk with so much room.
func made(t *testing.T, room int) *disk.Disk {
	t.Helper()
	d, err := disk.New(room)
	if err != api.OK {
		t.Fatalf("disk.New(%d): error %d", room, err)
	}
	return d
}

// holding is a disk with these safe bytes, and these loose ones behind them.
func holding(t *testing.T, room int, safe, loose []byte) *disk.Disk {
	t.Helper()
	d := made(t, room)
	if err := d.Replace(safe); err != api.OK {
		t.Fatalf("Replace: error %d", err)
	}
	if err := d.Write(loose); err != api.OK {
		t.Fatalf("Write: error %d", err)
	}
	return d
}

// opened is the vault of a disk that has one.
func opened(t *testing.T, name string, d *disk.Disk) *Vault {
	t.Helper()
	v, err := Open(d)
	if err != api.OK || v == nil {
		t.Fatalf("%s: Open: %v, error %d", name, v, err)
	}
	return v
}

// putAll puts states, that must go.
func putAll(t *testing.T, name string, v *Vault, l ...State) {
	t.Helper()
	for i, s := range l {
		if err := v.Put(s); err != api.OK {
			t.Fatalf("%s: Put number %d, of %v: error %d", name, i, s, err)
		}
	}
}

// tells holds a vault's state, and how many records it has; asked twice, since asking must change nothing.
func tells(t *testing.T, name string, v *Vault, s State, records int) {
	t.Helper()
	for range 2 {
		if got := v.State(); got != s {
			t.Errorf("%s: the state is %v, not %v", name, got, s)
		}
		if got := v.Records(); got != records {
			t.Errorf("%s: there are %d records, not %d", name, got, records)
		}
	}
}

// lies holds a disk's file, and how much of it is safe.
func lies(t *testing.T, name string, d *disk.Disk, file []byte, safe int) {
	t.Helper()
	if got := d.File(); !slices.Equal(got, file) {
		t.Errorf("%s: the file is %v, not %v", name, cut(got), cut(file))
	}
	if got := d.Safe(); got != safe {
		t.Errorf("%s: %d bytes are safe, not %d", name, got, safe)
	}
}

// cut is so much of a file as one wants to read.
func cut(b []byte) []byte {
	return b[:min(len(b), 4*bytesOf)]
}

// stands holds all that can be told of a vault whose file has just these records.
func stands(t *testing.T, name string, v *Vault, d *disk.Disk, l []State, safe int) {
	t.Helper()
	var s State
	if len(l) > 0 {
		s = l[len(l)-1]
	}
	tells(t, name, v, s, len(l))
	lies(t, name, d, plainFile(l...), safe)
}

// keeps are what a Crash is told here of a disk with so many loose bytes: each number of them, and what is beside.
func keeps(loose int) []int {
	l := []int{math.MinInt, -1, math.MaxInt}
	for k := range loose + 2 {
		l = append(l, k)
	}
	return l
}

// fewKeeps are those of them beside the edges of records.
func fewKeeps(loose int) []int {
	return slices.DeleteFunc(keeps(loose), func(k int) bool {
		at := uint(k) % bytesOf
		return k > 0 && k < loose && at > 1 && at < bytesOf-1
	})
}
