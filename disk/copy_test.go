package disk

import (
	"bytes"
	"slices"
	"testing"

	"annona/api"
)

// puts are the calls that are handed bytes.
func puts() map[string]func(d *Disk, b []byte) api.Errno {
	return map[string]func(d *Disk, b []byte) api.Errno{"Write": (*Disk).Write, "Replace": (*Disk).Replace}
}

// turn makes each byte another one.
func turn(b []byte) {
	for i := range b {
		b[i] ^= 255
	}
}

// changes are acts behind which a file is another one than it was, or lies elsewhere.
func changes() []func(d *Disk) {
	return []func(d *Disk){
		func(d *Disk) { d.Write([]byte("WX")) },
		func(d *Disk) { d.Sync() },
		func(d *Disk) { d.Crash(0) },
		func(d *Disk) { d.Write([]byte("YZ")) },
		func(d *Disk) { d.Crash(1) },
		func(d *Disk) { d.Write([]byte("UV")) },
		func(d *Disk) { d.Replace([]byte("QRST")) },
		func(d *Disk) { d.Write([]byte("OP")) },
		func(d *Disk) { d.Replace(nil) },
		func(d *Disk) { d.Write([]byte("MN")) },
		func(d *Disk) { d.Crash(-1) },
		func(d *Disk) { d.Write([]byte("KL")) },
	}
}

// TestHandedInIsNotKept: rule 4, turning what was handed in, and what lies behind it, turns no file.
func TestHandedInIsNotKept(t *testing.T) {
	for name, call := range puts() {
		for n := range 40 {
			whole := rising(100, n+60)
			want := string(whole[5 : 5+n])
			d := made(t, 100)
			put(t, name, call(d, whole[5:5+n]), api.OK)
			safe := d.Safe()
			turn(whole)
			has(t, name+", turned", d, want, safe)
			put(t, name+", and a Write", d.Write([]byte("abc")), api.OK)
			has(t, name+", and a Write", d, want+"abc", safe)
			turn(whole)
			has(t, name+", turned again", d, want+"abc", safe)
		}
	}
}

// TestHandedInIsNotWrittenInto: rule 4, neither the bytes, nor what lies ahead of them and behind, by the call or by later ones.
func TestHandedInIsNotWrittenInto(t *testing.T) {
	for name, call := range puts() {
		for n := range 40 {
			whole := rising(100, n+60)
			was := slices.Clone(whole)
			d := of(t, 100, "ab", "cd")
			put(t, name, call(d, whole[5:5+n]), api.OK)
			if !bytes.Equal(whole, was) {
				t.Errorf("%s of %d bytes: they are %v", name, n, whole)
			}
			for i, change := range changes() {
				change(d)
				if !bytes.Equal(whole, was) {
					t.Fatalf("%s of %d bytes, behind act %d: they are %v", name, n, i, whole)
				}
			}
		}
	}
}

// TestRefusedIsNotWrittenInto: rule 4, nor where there is an error.
func TestRefusedIsNotWrittenInto(t *testing.T) {
	for name, call := range puts() {
		whole := rising(3, 30)
		for _, d := range []*Disk{of(t, 9, "abc", "de"), made(t, 0), nil} {
			if err := call(d, whole[:10]); err == api.OK {
				t.Errorf("%s was not refused", name)
			}
			if !bytes.Equal(whole, rising(3, 30)) {
				t.Errorf("%s: the bytes are %v", name, whole)
			}
		}
	}
}

// TestFileIsACopy: turning what File told, and what lies behind it, turns no file, nor what File told else: none of it safe, some, and all.
func TestFileIsACopy(t *testing.T) {
	for n := range 40 {
		for _, safe := range []int{0, n / 2, n} {
			d := made(t, 100)
			put(t, "Write", d.Write(rising(1, safe)), api.OK)
			d.Sync()
			put(t, "Write", d.Write(rising(1+byte(safe), n-safe)), api.OK)
			turnedTold(t, d, string(rising(1, n)), safe)
			put(t, "Replace", d.Replace(rising(1, n)), api.OK)
			turnedTold(t, d, string(rising(1, n)), n)
		}
	}
}

// turnedTold holds that a disk has this file, whatever is done with what File told.
func turnedTold(t *testing.T, d *Disk, want string, safe int) {
	t.Helper()
	first, second := d.File(), d.File()
	turn(second[:cap(second)])
	second = append(second, 255, 255, 255)
	has(t, "told, and turned", d, want, safe)
	if string(first) != want {
		t.Errorf("of %q: told first, turned with the second: %v", want, first)
	}
	put(t, "Write", d.Write([]byte{77, 78}), api.OK)
	turn(second)
	has(t, "told, turned, and written behind", d, want+"MN", safe)
}

// TestFileToldStays: what File told ahead of any act is not turned by it, nor by the acts behind it.
func TestFileToldStays(t *testing.T) {
	for n := range 40 {
		for skip := range changes() {
			d := made(t, 100)
			put(t, "Write", d.Write(rising(1, n)), api.OK)
			if n%2 == 0 {
				d.Sync()
			}
			told := [][]byte{d.File()}
			was := []string{string(rising(1, n))}
			for i, change := range changes()[skip:] {
				change(d)
				told = append(told, d.File())
				was = append(was, string(told[len(told)-1]))
				for k := range told {
					if string(told[k]) != was[k] {
						t.Fatalf("of %d, told %d, behind act %d: %v, that was %q", n, k, skip+i, told[k], was[k])
					}
				}
			}
		}
	}
}

// TestFileHandedBack: what File told may be handed in, also to the disk that told it.
func TestFileHandedBack(t *testing.T) {
	d := of(t, 12, "abc", "def")
	put(t, "Write of the file", d.Write(d.File()), api.OK)
	has(t, "twice itself", d, "abcdefabcdef", 3)
	b := d.File()
	put(t, "Replace by a part of it", d.Replace(b[2:5]), api.OK)
	has(t, "a part of it", d, "cde", 3)
	turn(b)
	has(t, "that was turned", d, "cde", 3)
	put(t, "Replace by the file", d.Replace(d.File()), api.OK)
	has(t, "itself", d, "cde", 3)
}
