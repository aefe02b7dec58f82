package vault

import (
	"math"
	"testing"

	"annona/api"
	"annona/disk"
)

// puts holds what Put tells, and all that can be told behind it of a vault with these records.
func puts(t *testing.T, name string, v *Vault, d *disk.Disk, s State, want api.Errno, l []State, safe int) {
	t.Helper()
	if err := v.Put(s); err != want {
		t.Errorf("%s: Put(%v): error %d, not %d", name, s, err, want)
	}
	stands(t, name, v, d, l, safe)
}

// TestPut: of states one behind the other, ahead of a Sync and behind it; Put does not sync.
func TestPut(t *testing.T) {
	d := made(t, roomy)
	v := opened(t, "empty", d)
	stands(t, "empty", v, d, nil, 0)
	l := []State{{1, 0, 0, 2}, {1, 0, 0, 2}, {4, 3, 9, 2}, {4, 4, 0, 2}, {6, 4, 1, 3}, {6, 4, 1, 4}}
	for i, s := range l[:3] {
		puts(t, "not synced", v, d, s, api.OK, l[:i+1], 0)
	}
	v.Sync()
	stands(t, "synced", v, d, l[:3], 3*bytesOf)
	for i, s := range l[3:] {
		puts(t, "behind a Sync", v, d, s, api.OK, l[:i+4], 3*bytesOf)
	}
}

// TestPutOneNumber: of the state as it is, of one that is more in one number, and of one that is less in one.
func TestPutOneNumber(t *testing.T) {
	for _, safe := range []bool{false, true} {
		for _, p := range places() {
			s := State{5, 5, 5, 5}
			d := made(t, roomy)
			v := opened(t, "empty", d)
			putAll(t, "the first", v, s)
			synced := 0
			if safe {
				v.Sync()
				synced = bytesOf
			}
			puts(t, p.name+" one less", v, d, with(s, p, 4), api.ErrStale, []State{s}, synced)
			puts(t, "the same", v, d, s, api.OK, []State{s, s}, synced)
			more := with(s, p, 6)
			puts(t, p.name+" one more", v, d, more, api.OK, []State{s, s, more}, synced)
			puts(t, p.name+" as it was", v, d, s, api.ErrStale, []State{s, s, more}, synced)
		}
	}
}

// TestPutAll0: of an empty vault the state of all 0 may be put; that is a record, too.
func TestPutAll0(t *testing.T) {
	d := made(t, roomy)
	v := opened(t, "empty", d)
	puts(t, "all 0", v, d, State{}, api.OK, []State{{}}, 0)
	puts(t, "all 0, again", v, d, State{}, api.OK, []State{{}, {}}, 0)
}

// TestPutEdges: each number at 0 and 2^40, and beside: what may not be is ErrArg, and nothing.
func TestPutEdges(t *testing.T) {
	for _, p := range places() {
		for _, x := range []int{0, 1, greatest - 1, greatest} {
			d := made(t, roomy)
			v := opened(t, "empty", d)
			s := with(State{}, p, x)
			puts(t, p.name+" at an edge", v, d, s, api.OK, []State{s}, 0)
			s = State{greatest, greatest, greatest, greatest}
			puts(t, "all at the end", v, d, s, api.OK, []State{with(State{}, p, x), s}, 0)
		}
		for _, x := range []int{-1, -2, math.MinInt, math.MinInt + 1, -greatest, greatest + 1, greatest + 2, 1 << 41, 1 << 61, 1 << 62, 1<<62 + 1, math.MaxInt} {
			for _, was := range []State{{}, {5, 5, 5, 5}, {greatest, greatest, greatest, greatest}} {
				d := made(t, roomy)
				v := opened(t, "empty", d)
				putAll(t, "the first", v, was)
				v.Sync()
				puts(t, p.name+" may not be", v, d, with(was, p, x), api.ErrArg, []State{was}, bytesOf)
				puts(t, p.name+" may not be, all else 0", v, d, with(State{}, p, x), api.ErrArg, []State{was}, bytesOf)
			}
		}
	}
}

// TestPutErrorsInOrder: ErrArg ahead of ErrStale, and ErrStale ahead of the disk's ErrFull.
func TestPutErrorsInOrder(t *testing.T) {
	for _, room := range []int{bytesOf, roomy} {
		was := State{5, 5, 5, 5}
		d := made(t, room)
		v := opened(t, "empty", d)
		putAll(t, "the first", v, was)
		for _, p := range places() {
			for _, q := range places() {
				for _, x := range []int{-1, greatest + 1} {
					if p.name == q.name {
						continue
					}
					s := with(with(was, p, x), q, 4)
					puts(t, p.name+" may not be, "+q.name+" less", v, d, s, api.ErrArg, []State{was}, 0)
				}
			}
			puts(t, p.name+" less", v, d, with(was, p, 4), api.ErrStale, []State{was}, 0)
			puts(t, p.name+" below 0", v, d, with(was, p, -1), api.ErrArg, []State{was}, 0)
		}
	}
	d := made(t, bytesOf)
	v := opened(t, "empty", d)
	putAll(t, "the first", v, State{5, 5, 5, 5})
	puts(t, "full", v, d, State{5, 5, 5, 5}, api.ErrFull, []State{{5, 5, 5, 5}}, 0)
}

// TestPutFull: the room is one byte short, or many: ErrFull, and nothing; with one byte more it goes.
func TestPutFull(t *testing.T) {
	for n := range 5 {
		l := upTo(n + 1)
		for short := 1; short <= bytesOf; short++ {
			d := made(t, (n+1)*bytesOf-short)
			v := opened(t, "empty", d)
			putAll(t, "what there is room for", v, l[:n]...)
			puts(t, "short of room", v, d, l[n], api.ErrFull, l[:n], 0)
			puts(t, "short of room, again", v, d, l[n], api.ErrFull, l[:n], 0)
			v.Sync()
			puts(t, "short of room, synced", v, d, l[n], api.ErrFull, l[:n], n*bytesOf)
			if n > 0 {
				puts(t, "what is less than the refused one", v, d, l[n-1], api.ErrFull, l[:n], n*bytesOf)
			}
		}
		d := made(t, (n+1)*bytesOf)
		v := opened(t, "empty", d)
		putAll(t, "the ones ahead", v, l[:n]...)
		puts(t, "just room", v, d, l[n], api.OK, l, 0)
	}
	for _, room := range []int{0, 1, 31} {
		d := made(t, room)
		v := opened(t, "empty", d)
		puts(t, "no room at all", v, d, State{}, api.ErrFull, nil, 0)
		v.Sync()
		stands(t, "no room at all, synced", v, d, nil, 0)
	}
}

// TestPutRefusedIsForgotten: a state that was refused is no bound for those behind it.
func TestPutRefusedIsForgotten(t *testing.T) {
	d := made(t, roomy)
	v := opened(t, "empty", d)
	l := []State{{5, 5, 5, 5}, {6, 6, 6, 6}}
	puts(t, "the first", v, d, l[0], api.OK, l[:1], 0)
	puts(t, "may not be", v, d, State{9, 9, 9, greatest + 1}, api.ErrArg, l[:1], 0)
	puts(t, "stale", v, d, State{9, 9, 9, 4}, api.ErrStale, l[:1], 0)
	puts(t, "a little more", v, d, l[1], api.OK, l, 0)
}

// nilVaults are vaults that are nil.
func nilVaults() []*Vault {
	none, _ := Open(nil)
	return []*Vault{nil, none}
}

// TestNil: rule 8, and the chapter: ErrArg ahead of all else, all 0, 0; Sync ends.
func TestNil(t *testing.T) {
	for _, v := range nilVaults() {
		for _, s := range []State{{}, {1, 2, 3, 4}, {-1, 0, 0, 0}, {0, 0, 0, greatest + 1}, {greatest, greatest, greatest, greatest}} {
			if err := v.Put(s); err != api.ErrArg {
				t.Errorf("Put(%v): error %d, not ErrArg", s, err)
			}
			v.Sync()
			tells(t, "a nil vault", v, State{}, 0)
		}
	}
}
