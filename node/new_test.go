package node

import (
	"math"
	"slices"
	"testing"

	"annona/api"
	"annona/disk"
	"annona/vault"
)

// wrongConfs are configurations that may not be, and their errors.
func wrongConfs() map[api.Errno][]api.Conf {
	turned := func(f func(c *api.Conf)) api.Conf {
		c := theConf()
		f(&c)
		return c
	}
	return map[api.Errno][]api.Conf{
		api.ErrNodes: {{}, sized(0), sized(-1), sized(65), turned(func(c *api.Conf) { c.N, c.Skew, c.Keys, c.Rates = 65, -1, 0, nil })},
		api.ErrTimes: {
			turned(func(c *api.Conf) { c.Skew = -1 }), turned(func(c *api.Conf) { c.TTL = 0 }), turned(func(c *api.Conf) { c.Valid = span + 1 }),
			turned(func(c *api.Conf) { c.Loss = 0 }), turned(func(c *api.Conf) { c.Hear = 0 }), turned(func(c *api.Conf) { c.Hear, c.Queue = 0, 17 }),
		},
		api.ErrRooms: {turned(func(c *api.Conf) { c.Keys = 0 }), turned(func(c *api.Conf) { c.Keys = 17 }), turned(func(c *api.Conf) { c.Queue = -1 }), turned(func(c *api.Conf) { c.Queue, c.Rates = 17, nil })},
		api.ErrRates: {turned(func(c *api.Conf) { c.Rates = nil }), turned(func(c *api.Conf) { c.Rates = make([]api.Rate, 9) }), turned(func(c *api.Conf) { c.Rates = []api.Rate{{R: -1}} })},
	}
}

// wrongDisks are disks of which no vault may be, and the vault's errors.
func wrongDisks(t *testing.T) map[*disk.Disk]api.Errno {
	t.Helper()
	back := fileOf(state(5, 0, 0, 1), state(4, 0, 0, 1))
	torn := append(fileOf(state(most+1, 0, 0, 0)), 1, 2, 3)
	return map[*disk.Disk]api.Errno{
		nil:                         api.ErrArg,
		bytesOn(t, roomy, back):     api.ErrForm,
		bytesOn(t, len(back), back): api.ErrForm,
		bytesOn(t, roomy, torn):     api.ErrForm,
		bytesOn(t, roomy, slices.Repeat([]byte{255}, bytesOf)): api.ErrForm,
	}
}

// newFails holds the error of New, and that the disk stays.
func newFails(t *testing.T, c api.Conf, id int, d *disk.Disk, want api.Errno) {
	t.Helper()
	file, safe := d.File(), d.Safe()
	if n, err := New(c, id, d, start); n != nil || err != want {
		t.Errorf("New(%+v, %d): %v, error %d, not %d", c, id, n, err, want)
	}
	if !slices.Equal(d.File(), file) || d.Safe() != safe {
		t.Errorf("New(%+v, %d) left %v, %d safe", c, id, d.File(), d.Safe())
	}
}

// noNodes are ids that are none of a ring of n.
func noNodes(n int) []int {
	return []int{-1, n, n + 1, 64, 65, math.MinInt, math.MaxInt}
}

// TestNewOfWrongConfs: G1, the configuration's error is told ahead of that of a node, and of a disk.
func TestNewOfWrongConfs(t *testing.T) {
	for want, l := range wrongConfs() {
		for _, c := range l {
			for _, id := range append(noNodes(3), 0, here, 2) {
				newFails(t, c, id, diskOf(t, roomy), want)
				for d := range wrongDisks(t) {
					newFails(t, c, id, d, want)
				}
			}
		}
	}
}

// TestNewOfNoNode: G1, that there is no such node is told ahead of the vault's error.
func TestNewOfNoNode(t *testing.T) {
	for _, n := range []int{1, 2, 3, 63, 64} {
		for _, id := range noNodes(n) {
			if id >= 0 && id < n {
				continue
			}
			newFails(t, sized(n), id, diskOf(t, roomy), api.ErrArg)
			for d := range wrongDisks(t) {
				newFails(t, sized(n), id, d, api.ErrArg)
			}
		}
		for _, id := range []int{0, n / 2, n - 1} {
			made(t, sized(n), id, diskOf(t, roomy), start)
		}
	}
}

// TestNewOfWrongDisks: G1, the vault's errors.
func TestNewOfWrongDisks(t *testing.T) {
	for _, id := range []int{0, 1, 2} {
		for d, want := range wrongDisks(t) {
			newFails(t, theConf(), id, d, want)
		}
	}
}

// TestNewOfLittleRoom: G1, a disk without room, and a full one, are a vault's, so that a node is made on them; it halts as soon as it shall keep something.
func TestNewOfLittleRoom(t *testing.T) {
	full := diskOf(t, 2*bytesOf, state(1, 0, 0, 0), state(2, 0, 0, 0))
	for d, promised := range map[*disk.Disk]int{diskOf(t, 0): 0, diskOf(t, bytesOf-1): 0, full: 2} {
		file := d.File()
		n := made(t, theConf(), here, d, start)
		if n.State() != state(promised, 0, 0, 0) || n.Halted() {
			t.Errorf("it is %v, %t", n.State(), n.Halted())
		}
		steps(t, n, start, sends(beats()...))
		waits(t, n, 7, 5, 1, start)
		receives(t, n, passOf(0, here, tokenOf(9, 1)), start, halts(restarted(7)))
		isOver(t, n)
		if !slices.Equal(d.File(), file) || n.State() != state(promised, 0, 0, 0) {
			t.Errorf("the disk has %v, the state is %v", d.File(), n.State())
		}
	}
}

// TestNewOnRecords: G1, the state is that of the last record; the election begins with what was promised, and the round; bytes behind the last whole record are cut off.
func TestNewOnRecords(t *testing.T) {
	rows := [][]vault.State{
		nil,
		{state(0, 0, 0, 0)},
		{state(4, 0, 0, 1)},
		{state(4, 0, 0, 1), state(4, 4, 0, 1), state(9, 4, 3, 1)},
		{state(3, 1, 1, 1), state(most-5, most-6, most, (most-5)/3)},
		{state(2, 9, 1, 7)},
	}
	for _, l := range rows {
		var last vault.State
		if len(l) > 0 {
			last = l[len(l)-1]
		}
		for _, behind := range [][]byte{nil, {1}, slices.Repeat([]byte{9}, bytesOf-1)} {
			d := bytesOn(t, roomy, append(fileOf(l...), behind...))
			n := made(t, theConf(), here, d, start)
			hasState(t, n, last)
			hasNone(t, n)
			hasWon(t, n, 0)
			isOn(t, d, l...)
			if n.Halted() || n.Standing() != 0 || len(n.Edge().Waiting())+len(n.Edge().Leases()) > 0 {
				t.Errorf("%v: a new node is %+v", l, looksOf(n))
			}
		}
	}
}

// TestNewStandsAbove: a node that was made on records stands with the next ballot above what was promised there, and takes no lesser generation.
func TestNewStandsAbove(t *testing.T) {
	n, d := onDisk(t, state(8, 6, 3, 2))
	alive(t, n, start+loss, 2)
	receives(t, n, passOf(0, here, tokenOf(7, 9)), start, said{})
	steps(t, n, start+loss, sends(beats(electOf(here, 2, 10, 2))...))
	hasState(t, n, state(10, 6, 3, 3))
	isOn(t, d, state(8, 6, 3, 2), state(10, 6, 3, 3))
}

// TestNewHasHeardAll: a new node has heard all now: till then and the span each of them may be the next one.
func TestNewHasHeardAll(t *testing.T) {
	for _, x := range []struct{ now, next int }{{start, 2}, {start + hear - 1, 2}, {start + hear, here}} {
		n := theNode(t)
		receives(t, n, passOf(here, here, tokenOf(5, 1)), x.now, sends(ackOf(here, here, 5, 1)))
		l := stamped(tokenOf(5, 2), here, x.now)
		if x.next == here {
			steps(t, n, x.now, sends(beats()...))
			hasToken(t, n, l)
			continue
		}
		steps(t, n, x.now, sends(beats(passOf(here, x.next, l))...))
		hasNone(t, n)
	}
}

// TestNewHasSeen: a new node has seen something now: it waits for so long till it stands.
func TestNewHasSeen(t *testing.T) {
	n := theNode(t)
	alive(t, n, start+loss-1, 0, 2)
	steps(t, n, start+loss-1, sends(beats()...))
	hasState(t, n, vault.State{})
	steps(t, n, start+loss, sends(beats(electOf(here, 2, 4, 2))...))
	hasState(t, n, state(4, 0, 0, 1))
}

// TestNewAtAnyReading: any int is a new node's reading; as a number it is since when it waits.
func TestNewAtAnyReading(t *testing.T) {
	for _, now := range edges() {
		n := made(t, theConf(), here, diskOf(t, roomy), now)
		since := min(max(now, 0), end)
		if ahead := since + loss - 1; ahead < end {
			steps(t, n, ahead, sends(beats()...))
			hasState(t, n, vault.State{})
		}
		if since+loss < end {
			steps(t, n, since+loss, sends(beats()...))
			hasState(t, n, state(4, 0, 0, 1))
			continue
		}
		steps(t, n, end-1, sends(beats()...))
		hasState(t, n, vault.State{})
	}
}

// TestNewOnLooseBytes: P19.2, what another one left loose is safe ahead of what hangs on it.
func TestNewOnLooseBytes(t *testing.T) {
	d := diskOf(t, roomy, state(4, 3, 1, 1))
	if err := d.Write(fileOf(state(5, 5, 2, 1))); err != api.OK {
		t.Fatal(err)
	}
	n := made(t, theConf(), here, d, start)
	receives(t, n, passOf(0, here, tokenOf(5, 2)), start, sends(ackOf(here, 0, 5, 2)))
	d.Crash(0)
	isOn(t, d, state(4, 3, 1, 1), state(5, 5, 2, 1))
}
