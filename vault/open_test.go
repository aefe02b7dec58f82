package vault

import (
	"math"
	"slices"
	"testing"

	"annona/api"
	"annona/disk"
)

// TestOpen: a disk with no record, with one, and with several: its safe bytes may end anywhere, and all stays as it was.
func TestOpen(t *testing.T) {
	for _, n := range []int{0, 1, 2, 3, 10, stayMost - 1, stayMost, stayMost + 1, stayMost + 2, 200} {
		l := upTo(n)
		file := plainFile(l...)
		for _, safe := range []int{0, 1, 31, 32, 33, 40, len(file) - 33, len(file) - 32, len(file) - 31, len(file) - 1, len(file)} {
			if safe < 0 || safe > len(file) {
				continue
			}
			d := holding(t, roomy, file[:safe], file[safe:])
			stands(t, "opened", opened(t, "records", d), d, l, safe)
			stands(t, "opened again", opened(t, "records", d), d, l, safe)
		}
	}
}

// TestOpenTold: one record's bytes, written out, and what they say.
func TestOpenTold(t *testing.T) {
	b := []byte{
		0, 0, 0, 1, 0, 0, 0, 0,
		0, 0, 0, 0, 0, 0, 1, 2,
		0, 0, 0, 0, 3, 0, 0, 255,
		0, 0, 0, 255, 254, 253, 252, 251,
	}
	want := State{Promised: 1 << 32, Gen: 258, Hop: 3<<24 + 255, Round: 0xfffefdfcfb}
	tells(t, "one record", opened(t, "one record", holding(t, 32, b, nil)), want, 1)
}

// TestOpenSameAgain: a state may stand on the disk twice, and one of all noughts is a record too.
func TestOpenSameAgain(t *testing.T) {
	for _, l := range [][]State{{{}}, {{}, {}}, {{}, {1, 2, 3, 4}, {1, 2, 3, 4}}, {{9, 9, 9, 9}, {9, 9, 9, 9}, {9, 10, 0, 9}}} {
		d := holding(t, roomy, nil, plainFile(l...))
		stands(t, "the same again", opened(t, "the same again", d), d, l, 0)
	}
}

// TestOpenEdges: each number at 0 and at 2^40, alone and together.
func TestOpenEdges(t *testing.T) {
	for _, p := range places() {
		for _, x := range []int{0, 1, 255, 256, 1<<32 - 1, 1 << 32, greatest - 1, greatest} {
			for _, s := range []State{with(State{}, p, x), with(State{7, 7, 7, 7}, p, x), with(State{greatest, greatest, greatest, greatest}, p, x)} {
				d := holding(t, bytesOf, plainFile(s), nil)
				stands(t, p.name+" at an edge", opened(t, p.name, d), d, []State{s}, bytesOf)
			}
		}
	}
}

// TestOpenCutsOff: each number of bytes behind the last whole record goes, and the records are all safe then.
func TestOpenCutsOff(t *testing.T) {
	for _, n := range []int{0, 1, 2, 5, stayMost, stayMost + 6} {
		l := upTo(n)
		file := plainFile(l...)
		for k := 1; k < bytesOf; k++ {
			for _, torn := range [][]byte{plainFile(upTo(n + 1)[n])[:k], slices.Repeat([]byte{255}, k), make([]byte, k)} {
				all := slices.Concat(file, torn)
				for _, safe := range []int{0, len(file) / 2, len(file), len(file) + 1, len(all)} {
					safe = min(safe, len(all))
					d := holding(t, len(all), all[:safe], all[safe:])
					v := opened(t, "torn", d)
					stands(t, "cut off", v, d, l, len(file))
					if gone := d.Crash(0); gone != 0 {
						t.Errorf("behind the cut %d bytes are loose", gone)
					}
					stands(t, "opened again", opened(t, "cut", d), d, l, len(file))
				}
			}
		}
	}
}

// TestOpenGoesOn: a vault that was cut off, or not, takes what is put behind.
func TestOpenGoesOn(t *testing.T) {
	for k := range bytesOf {
		l := upTo(4)
		d := holding(t, roomy, plainFile(l[:2]...), slices.Repeat([]byte{9}, k))
		v := opened(t, "torn", d)
		putAll(t, "behind Open", v, l[2:]...)
		stands(t, "behind Open and Put", v, d, l, 2*bytesOf)
		v.Sync()
		stands(t, "and Sync", v, d, l, 4*bytesOf)
		stands(t, "and Open", opened(t, "again", d), d, l, 4*bytesOf)
	}
}

// TestOpenNil: of a nil disk ErrArg, and no vault.
func TestOpenNil(t *testing.T) {
	if v, err := Open(nil); v != nil || err != api.ErrArg {
		t.Errorf("Open(nil): %v, error %d", v, err)
	}
	var d *disk.Disk
	if v, err := Open(d); v != nil || err != api.ErrArg {
		t.Errorf("Open of a nil disk: %v, error %d", v, err)
	}
}

// refused holds that a file is none's, alone and with any bytes that are no record behind it, and that nothing is changed.
func refused(t *testing.T, name string, file []byte) {
	t.Helper()
	for _, k := range []int{0, 1, 2, 16, 30, 31} {
		all := slices.Concat(file, slices.Repeat([]byte{7}, k))
		for _, safe := range []int{0, bytesOf, len(file), len(all)} {
			d := holding(t, roomy, all[:safe], all[safe:])
			for range 2 {
				if v, err := Open(d); v != nil || err != api.ErrForm {
					t.Errorf("%s, %d bytes behind it: %v, error %d", name, k, v, err)
				}
				lies(t, name, d, all, safe)
			}
		}
	}
}

// tooGreat are bits that are no number up to 2^40.
func tooGreat() []uint64 {
	return []uint64{greatest + 1, greatest + 2, 2 * greatest, greatest + 1<<32, 1<<56 + 1, 1 << 61, 1<<62 - 1, 1 << 62, 1<<62 + 1, 3 << 61, math.MaxInt64, 1 << 63, 1<<63 + 1, 1<<63 + greatest, math.MaxUint64 - 1, math.MaxUint64}
}

// TestOpenNoNumber: a number that is too great, in each place, in the first record, the last, and one between.
func TestOpenNoNumber(t *testing.T) {
	for i, p := range places() {
		for _, x := range tooGreat() {
			for at := range 4 {
				l := upTo(4)
				var file []byte
				for k, s := range l {
					row := []uint64{uint64(s.Promised), uint64(s.Gen), uint64(s.Hop), uint64(s.Round)}
					if k == at {
						row[i] = x
					}
					file = append(file, plainRecord(row...)...)
				}
				refused(t, p.name+" too great", file)
				refused(t, p.name+" too great, at the end", file[:(at+1)*bytesOf])
			}
			row := make([]uint64, 4)
			row[i] = x
			refused(t, p.name+" too great, all else 0", plainRecord(row...))
			refused(t, p.name+" too great, behind noughts and ahead of them", slices.Concat(make([]byte, bytesOf), plainRecord(row...), make([]byte, bytesOf)))
		}
	}
}

// TestOpenNoRise: a record that the one ahead of it doesn't rise to, at the second place and at later ones.
func TestOpenNoRise(t *testing.T) {
	for n := 2; n < 6; n++ {
		for at := 1; at < n; at++ {
			for _, p := range places() {
				l := []State{}
				for i := range n {
					l = append(l, State{5 + i, 5, 5, 5 + i})
				}
				ahead := l[at-1]
				l[at] = with(ahead, p, *p.of(&ahead)-1)
				refused(t, p.name+" goes back", plainFile(l...))
				refused(t, p.name+" goes back, at the end", plainFile(l[:at+1]...))
				l[at] = with(ahead, p, 0)
				refused(t, p.name+" goes back to 0", plainFile(l...))
			}
			l := slices.Repeat([]State{{5, 5, 5, 5}}, n)
			l[at] = State{6, 4, 6, 6}
			refused(t, "GEN less, and HOP more", plainFile(l...))
			l[at] = State{}
			refused(t, "all 0", plainFile(l...))
		}
	}
}

// TestOpenGoesByTheOneAhead: each record is held against the one just ahead of it.
func TestOpenGoesByTheOneAhead(t *testing.T) {
	refused(t, "up, back, and not below the first", plainFile(State{1, 1, 1, 1}, State{3, 3, 3, 3}, State{2, 2, 2, 2}))
	refused(t, "up, back, and up above all", plainFile(State{1, 1, 1, 1}, State{3, 3, 3, 3}, State{2, 2, 2, 2}, State{4, 4, 4, 4}))
	refused(t, "the first is above the second", plainFile(State{9, 9, 9, 9}, State{2, 2, 2, 2}, State{3, 3, 3, 3}))
	l := []State{{1, 1, 9, 1}, {1, 2, 0, 1}, {1, 2, 0, 1}, {2, 2, 1, 1}, {2, 3, 1, 5}}
	d := holding(t, roomy, plainFile(l...), nil)
	stands(t, "up, and HOP back", opened(t, "up", d), d, l, len(l)*bytesOf)
}

// TestOpenTwoFaults: a number that is too great and one that goes back, in either order.
func TestOpenTwoFaults(t *testing.T) {
	good, low := plainFile(State{5, 5, 5, 5}), plainFile(State{4, 5, 5, 5})
	great := plainRecord(6, 6, 6, greatest+1)
	refused(t, "too great, then back", slices.Concat(good, great, low))
	refused(t, "back, then too great", slices.Concat(good, low, great))
}
