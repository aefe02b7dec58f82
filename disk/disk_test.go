package disk

import (
	"math"
	"strings"
	"testing"

	"annona/api"
)

// TestOrdinary: D1, each call, on a disk with safe and loose bytes.
func TestOrdinary(t *testing.T) {
	d := made(t, 20)
	has(t, "a new disk", d, "", 0)
	put(t, "Write", d.Write([]byte("abc")), api.OK)
	has(t, "behind Write", d, "abc", 0)
	count(t, "Sync", d.Sync(), 3)
	has(t, "behind Sync", d, "abc", 3)
	put(t, "Write", d.Write([]byte("defgh")), api.OK)
	has(t, "safe and loose", d, "abcdefgh", 3)
	put(t, "Write behind loose ones", d.Write([]byte("ij")), api.OK)
	has(t, "safe and more loose", d, "abcdefghij", 3)
	count(t, "Crash", d.Crash(4), 3)
	has(t, "behind Crash", d, "abcdefg", 7)
	put(t, "Write behind Crash", d.Write([]byte("xyz")), api.OK)
	has(t, "written behind Crash", d, "abcdefgxyz", 7)
	count(t, "Sync of these", d.Sync(), 3)
	has(t, "all safe", d, "abcdefgxyz", 10)
	put(t, "Write", d.Write([]byte("!")), api.OK)
	put(t, "Replace", d.Replace([]byte("klmn")), api.OK)
	has(t, "behind Replace", d, "klmn", 4)
	put(t, "Write behind Replace", d.Write([]byte("op")), api.OK)
	has(t, "written behind Replace", d, "klmnop", 4)
	count(t, "Crash of all that is loose", d.Crash(0), 2)
	has(t, "at last", d, "klmn", 4)
}

// TestNew: a disk with room for 0 to 2^24 bytes; of all else ErrArg, and no disk.
func TestNew(t *testing.T) {
	for _, room := range []int{math.MinInt, math.MinInt + 1, math.MinInt32, -most, -2, -1, most + 1, most + 2, 2 * most, 1 << 31, 1 << 32, 1<<32 + 1, 1 << 62, math.MaxInt - 1, math.MaxInt} {
		if d, err := New(room); err != api.ErrArg || d != nil {
			t.Errorf("New(%d): %v, error %d, not ErrArg", room, d, err)
		}
	}
	for _, room := range []int{0, 1, 2, 65536, most - 1, most} {
		d := made(t, room)
		has(t, "a new disk", d, "", 0)
		if other := made(t, room); other == d {
			t.Errorf("New(%d) told the same disk again", room)
		}
	}
}

// TestRoom: as many bytes as there is room for, at all rooms of the edges, and one more.
func TestRoom(t *testing.T) {
	for _, room := range []int{0, 1, 2, 3, 65536, most - 1, most} {
		whole := rising(7, room+1)
		d := made(t, room)
		put(t, "Write of one more", d.Write(whole), api.ErrFull)
		has(t, "behind that", d, "", 0)
		put(t, "Replace by one more", d.Replace(whole), api.ErrFull)
		has(t, "behind that", d, "", 0)
		put(t, "Write of all", d.Write(whole[:room]), api.OK)
		has(t, "full", d, string(whole[:room]), 0)
		put(t, "Write of a byte behind all", d.Write([]byte{1}), api.ErrFull)
		has(t, "full still", d, string(whole[:room]), 0)
		count(t, "Sync of all", d.Sync(), room)
		put(t, "Replace by one more", d.Replace(whole), api.ErrFull)
		has(t, "behind that", d, string(whole[:room]), room)
		put(t, "Replace by all", d.Replace(whole[1:]), api.OK)
		has(t, "replaced", d, string(whole[1:]), room)
	}
}

// TestWrite: bytes that leave a place free, that fill the room, and one more; of none.
func TestWrite(t *testing.T) {
	for _, c := range []struct {
		name              string
		room              int
		safe, loose, more string
		want              api.Errno
	}{
		{"a place stays free", 9, "abc", "de", "fgh", api.OK},
		{"it fills the room", 9, "abc", "de", "fghi", api.OK},
		{"one more", 9, "abc", "de", "fghij", api.ErrFull},
		{"many more", 9, "abc", "de", strings.Repeat("x", 300), api.ErrFull},
		{"as many as the room, on a file", 9, "abc", "de", "123456789", api.ErrFull},
		{"behind safe ones, a place stays free", 5, "abc", "", "d", api.OK},
		{"behind safe ones, it fills the room", 5, "abc", "", "de", api.OK},
		{"behind safe ones, one more", 5, "abc", "", "def", api.ErrFull},
		{"behind loose ones, a place stays free", 5, "", "abc", "d", api.OK},
		{"behind loose ones, it fills the room", 5, "", "abc", "de", api.OK},
		{"behind loose ones, one more", 5, "", "abc", "def", api.ErrFull},
		{"on an empty file, it fills the room", 3, "", "", "abc", api.OK},
		{"on an empty file, one more", 3, "", "", "abcd", api.ErrFull},
		{"a byte on a full safe disk", 3, "abc", "", "d", api.ErrFull},
		{"a byte on a full loose disk", 3, "", "abc", "d", api.ErrFull},
		{"a byte on one of room 0", 0, "", "", "a", api.ErrFull},
		{"no bytes", 9, "abc", "de", "", api.OK},
		{"no bytes on a full disk", 5, "abc", "de", "", api.OK},
		{"no bytes on one of room 0", 0, "", "", "", api.OK},
		{"noughts", 4, "\x00", "\x00", "\x00\x00", api.OK},
		{"bytes of ones", 4, "\xff", "\xff", "\xff\xff", api.OK},
	} {
		d := of(t, c.room, c.safe, c.loose)
		put(t, c.name, d.Write([]byte(c.more)), c.want)
		want := c.safe + c.loose
		if c.want == api.OK {
			want += c.more
		}
		has(t, c.name, d, want, len(c.safe))
		put(t, c.name+", and nil", d.Write(nil), api.OK)
		has(t, c.name+", and nil", d, want, len(c.safe))
		count(t, c.name+", and Sync", d.Sync(), len(want)-len(c.safe))
		has(t, c.name+", and Sync", d, want, len(want))
	}
}

// TestFullIsNotForEver: what was refused is written once there is room, or if it is less.
func TestFullIsNotForEver(t *testing.T) {
	d := of(t, 6, "ab", "cde")
	put(t, "two bytes", d.Write([]byte("fg")), api.ErrFull)
	put(t, "one", d.Write([]byte("f")), api.OK)
	has(t, "full", d, "abcdef", 2)
	count(t, "Crash", d.Crash(1), 3)
	put(t, "four bytes", d.Write([]byte("wxyz")), api.ErrFull)
	put(t, "three", d.Write([]byte("wxy")), api.OK)
	has(t, "full behind a crash", d, "abcwxy", 3)
	put(t, "Replace by none", d.Replace(nil), api.OK)
	put(t, "seven bytes", d.Write([]byte("1234567")), api.ErrFull)
	put(t, "six", d.Write([]byte("123456")), api.OK)
	has(t, "full behind Replace", d, "123456", 0)
}

// TestSync: how many were loose; a second one tells 0.
func TestSync(t *testing.T) {
	for _, c := range []struct{ safe, loose string }{
		{"", ""}, {"", "a"}, {"a", ""}, {"abc", ""}, {"", "abc"}, {"abc", "d"}, {"a", "bcde"}, {"abcd", "efghi"},
	} {
		name := c.safe + "|" + c.loose
		d := of(t, 9, c.safe, c.loose)
		count(t, name, d.Sync(), len(c.loose))
		has(t, name, d, c.safe+c.loose, len(c.safe+c.loose))
		for range 2 {
			count(t, name+", again", d.Sync(), 0)
			has(t, name+", again", d, c.safe+c.loose, len(c.safe+c.loose))
		}
	}
	d := made(t, 0)
	count(t, "of room 0", d.Sync(), 0)
	has(t, "of room 0", d, "", 0)
	d = of(t, 9, "abc", "de")
	count(t, "Crash", d.Crash(1), 1)
	count(t, "behind Crash", d.Sync(), 0)
	put(t, "Replace", d.Replace([]byte("xy")), api.OK)
	count(t, "behind Replace", d.Sync(), 0)
	put(t, "a Write too great", d.Write([]byte("12345678")), api.ErrFull)
	count(t, "behind ErrFull", d.Sync(), 0)
	has(t, "at last", d, "xy", 2)
}

// TestReplace: shorter and longer ones, none, as long as the room, and one more.
func TestReplace(t *testing.T) {
	for _, c := range []struct {
		name            string
		safe, loose, by string
		want            api.Errno
	}{
		{"shorter", "abc", "def", "xy", api.OK},
		{"shorter than what is safe", "abcd", "", "xyz", api.OK},
		{"longer", "abc", "d", "uvwxy", api.OK},
		{"as long", "abc", "def", "uvwxyz", api.OK},
		{"itself", "abc", "def", "abcdef", api.OK},
		{"its safe part", "abc", "def", "abc", api.OK},
		{"as long as the room", "abc", "d", "12345678", api.OK},
		{"as long as the room, of a full one", "abcd", "efgh", "12345678", api.OK},
		{"as long as the room, of an empty one", "", "", "12345678", api.OK},
		{"one more", "abc", "def", "123456789", api.ErrFull},
		{"one more, nothing loose", "abc", "", "123456789", api.ErrFull},
		{"one more, nothing safe", "", "abc", "123456789", api.ErrFull},
		{"one more, of a full one", "abcd", "efgh", "123456789", api.ErrFull},
		{"one more, of an empty one", "", "", "123456789", api.ErrFull},
		{"many more", "abc", "def", strings.Repeat("x", 300), api.ErrFull},
		{"none", "abc", "def", "", api.OK},
		{"none, of an empty one", "", "", "", api.OK},
		{"one byte", "", "abc", "x", api.OK},
	} {
		d := of(t, 8, c.safe, c.loose)
		put(t, c.name, d.Replace([]byte(c.by)), c.want)
		if c.want != api.OK {
			has(t, c.name, d, c.safe+c.loose, len(c.safe))
			count(t, c.name+", and Sync", d.Sync(), len(c.loose))
			continue
		}
		has(t, c.name, d, c.by, len(c.by))
		count(t, c.name+", and Crash", d.Crash(0), 0)
		has(t, c.name+", and Crash", d, c.by, len(c.by))
		put(t, c.name+", and Write", d.Write([]byte("!")[:min(1, 8-len(c.by))]), api.OK)
		put(t, c.name+", and nil", d.Replace(nil), api.OK)
		has(t, c.name+", and nil", d, "", 0)
	}
	d := made(t, 0)
	put(t, "a byte, of room 0", d.Replace([]byte{1}), api.ErrFull)
	put(t, "none, of room 0", d.Replace([]byte{}), api.OK)
	put(t, "nil, of room 0", d.Replace(nil), api.OK)
	has(t, "of room 0", d, "", 0)
}

// TestCrash: what stays of the loose bytes, and how many are gone, at each keep of the edges.
func TestCrash(t *testing.T) {
	for _, c := range []struct {
		name string
		keep int
		file string
		gone int
	}{
		{"the least int", math.MinInt, "abc", 5},
		{"-1", -1, "abc", 5},
		{"0", 0, "abc", 5},
		{"1", 1, "abcd", 4},
		{"2", 2, "abcde", 3},
		{"as many as are safe", 3, "abcdef", 2},
		{"one fewer than are loose", 4, "abcdefg", 1},
		{"as many as are loose", 5, "abcdefgh", 0},
		{"one more", 6, "abcdefgh", 0},
		{"as many as there are", 8, "abcdefgh", 0},
		{"the greatest int", math.MaxInt, "abcdefgh", 0},
	} {
		d := of(t, 10, "abc", "defgh")
		count(t, c.name, d.Crash(c.keep), c.gone)
		has(t, c.name, d, c.file, len(c.file))
		count(t, c.name+", and Sync", d.Sync(), 0)
		for _, again := range keeps(5) {
			count(t, c.name+", and once more", d.Crash(again), 0)
			has(t, c.name+", and once more", d, c.file, len(c.file))
		}
		put(t, c.name+", and Write", d.Write([]byte("XY")), api.OK)
		has(t, c.name+", and Write", d, c.file+"XY", len(c.file))
		count(t, c.name+", Write, and Crash", d.Crash(1), 1)
		has(t, c.name+", Write, and Crash", d, c.file+"X", len(c.file)+1)
	}
}

// TestCrashOfEachSize: all safe and all loose parts that small disks may have, and each keep.
func TestCrashOfEachSize(t *testing.T) {
	whole := "abcdefg"
	for safe := range len(whole) + 1 {
		for end := safe; end <= len(whole); end++ {
			loose := end - safe
			for _, keep := range keeps(loose) {
				d := of(t, len(whole), whole[:safe], whole[safe:end])
				stay := 0
				for stay < keep && stay < loose {
					stay++
				}
				name := whole[:safe] + "|" + whole[safe:end]
				count(t, name, d.Crash(keep), loose-stay)
				has(t, name, d, whole[:safe+stay], safe+stay)
			}
		}
	}
}

// TestNil: rule 8, and the chapter: ErrArg, 0, nothing, ahead of all else.
func TestNil(t *testing.T) {
	var d *Disk
	for _, b := range [][]byte{nil, {}, {1}, rising(0, 300), make([]byte, most+1)} {
		put(t, "Write", d.Write(b), api.ErrArg)
		put(t, "Replace", d.Replace(b), api.ErrArg)
	}
	for _, keep := range keeps(3) {
		count(t, "Crash", d.Crash(keep), 0)
	}
	count(t, "Sync", d.Sync(), 0)
	count(t, "Safe", d.Safe(), 0)
	if b := d.File(); len(b) != 0 {
		t.Errorf("File: %v", b)
	}
}
