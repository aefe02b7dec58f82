package vault

import (
	"testing"

	"annona/api"
)

// synced are the records that stay behind a Sync, by the words.
func synced(l []State) []State {
	if len(l) > stayMost {
		return l[len(l)-1:]
	}
	return l
}

// TestMostRecords: it is as the chapter names it.
func TestMostRecords(t *testing.T) {
	if MostRecords != stayMost {
		t.Errorf("MostRecords is %d", MostRecords)
	}
}

// TestSync: of none and few records, of 64, that stay, and of 65 and more, of which the last one stays; twice, and again.
func TestSync(t *testing.T) {
	for _, n := range []int{0, 1, 2, 3, 62, 63, 64, 65, 66, 67, 127, 128, 129, 130, 300} {
		d := made(t, roomy)
		v := opened(t, "empty", d)
		l := upTo(n)
		putAll(t, "all", v, l...)
		stands(t, "not synced", v, d, l, 0)
		for range 3 {
			v.Sync()
			stands(t, "synced", v, d, synced(l), len(synced(l))*bytesOf)
		}
		stands(t, "opened", opened(t, "synced", d), d, synced(l), len(synced(l))*bytesOf)
		if gone := d.Crash(0); gone != 0 {
			t.Errorf("of %d records %d bytes are loose behind Sync", n, gone)
		}
	}
}

// TestSyncOnAnOpened: records that a disk had when it was opened count, too; Open leaves them all.
func TestSyncOnAnOpened(t *testing.T) {
	for _, n := range []int{1, 63, 64, 65, 66, 200} {
		for more := range 3 {
			l := upTo(n + more)
			d := holding(t, roomy, plainFile(l[:n]...), nil)
			v := opened(t, "as it lies", d)
			stands(t, "as it lies", v, d, l[:n], n*bytesOf)
			putAll(t, "more", v, l[n:]...)
			stands(t, "and more", v, d, l, n*bytesOf)
			v.Sync()
			stands(t, "synced", v, d, synced(l), len(synced(l))*bytesOf)
		}
	}
}

// TestSyncEachPut: one Sync behind each Put, over many: from 64 records on the next one makes them one.
func TestSyncEachPut(t *testing.T) {
	d := made(t, (stayMost+1)*bytesOf)
	v := opened(t, "empty", d)
	var file []State
	for _, s := range upTo(5*stayMost + 9) {
		putAll(t, "one more", v, s)
		v.Sync()
		file = synced(append(file, s))
		stands(t, "synced", v, d, file, len(file)*bytesOf)
	}
	if len(file) != 9 {
		t.Errorf("behind all there are %d records, not 9", len(file))
	}
}

// TestSyncGoesOn: behind the one record that stayed, others are put, and stand; none goes back.
func TestSyncGoesOn(t *testing.T) {
	d := made(t, roomy)
	v := opened(t, "empty", d)
	l := upTo(stayMost + 3)
	putAll(t, "65", v, l[:stayMost+1]...)
	v.Sync()
	puts(t, "one ahead of the last", v, d, l[stayMost-1], api.ErrStale, l[stayMost:stayMost+1], bytesOf)
	putAll(t, "two more", v, l[stayMost+1:]...)
	stands(t, "two more", v, d, l[stayMost:], bytesOf)
	v.Sync()
	stands(t, "two more, synced", v, d, l[stayMost:], 3*bytesOf)
}

// TestSyncOfAFullDisk: where there is room for 64 records and no more, they stay, and it stays full; with room for one more they become one.
func TestSyncOfAFullDisk(t *testing.T) {
	l := upTo(stayMost + 2)
	for short := range bytesOf {
		d := made(t, (stayMost+1)*bytesOf-1-short)
		v := opened(t, "empty", d)
		putAll(t, "64", v, l[:stayMost]...)
		puts(t, "full", v, d, l[stayMost], api.ErrFull, l[:stayMost], 0)
		v.Sync()
		stands(t, "full, synced", v, d, l[:stayMost], stayMost*bytesOf)
		puts(t, "full still", v, d, l[stayMost], api.ErrFull, l[:stayMost], stayMost*bytesOf)
	}
	d := made(t, (stayMost+1)*bytesOf)
	v := opened(t, "empty", d)
	putAll(t, "65", v, l[:stayMost+1]...)
	puts(t, "full", v, d, l[stayMost+1], api.ErrFull, l[:stayMost+1], 0)
	v.Sync()
	stands(t, "one alone", v, d, l[stayMost:stayMost+1], bytesOf)
	puts(t, "room again", v, d, l[stayMost+1], api.OK, l[stayMost:], bytesOf)
}
