package vault

import (
	"slices"
	"testing"

	"annona/api"
	"annona/disk"
)

// The acts.
const (
	toPut = iota
	toSync
	toCrash
	toTear
	toOpen
)

// act is something that is done with a vault, or with its disk: a state that is put, a keep, or a number of bytes that are none's.
type act struct {
	how int
	s   State
	n   int
}

// plain is a vault that is reckoned record by record, as the chapter's words tell it: Open follows each crash and each tear at once.
type plain struct {
	room int
	file []State
	safe int // how many of its records are safe
}

// state is the last record's.
func (p *plain) state() State {
	if len(p.file) == 0 {
		return State{}
	}
	return p.file[len(p.file)-1]
}

// put is what Put tells.
func (p *plain) put(s State) api.Errno {
	switch {
	case !plainRight(s):
		return api.ErrArg
	case !plainRises(p.state(), s):
		return api.ErrStale
	case (len(p.file)+1)*bytesOf > p.room:
		return api.ErrFull
	}
	p.file = append(slices.Clone(p.file), s)
	return api.OK
}

// crash takes loose records away till no more than keep bytes of them stay.
func (p *plain) crash(keep int) {
	for len(p.file) > p.safe && (len(p.file)-p.safe)*bytesOf > keep {
		p.file = p.file[:len(p.file)-1]
	}
	p.safe = len(p.file)
}

// does does an act, and is what Put tells, of one that puts.
func (p *plain) does(a act) api.Errno {
	switch a.how {
	case toPut:
		return p.put(a.s)
	case toSync:
		p.file = synced(p.file)
		p.safe = len(p.file)
	case toCrash:
		p.crash(a.n)
	case toTear:
		if len(p.file)*bytesOf+a.n <= p.room {
			p.safe = len(p.file)
		}
	}
	return api.OK
}

// pair is a vault on its disk, a plain one beside it, and what P7.2 asks of them: the last safe state, and those put since.
type pair struct {
	d     *disk.Disk
	v     *Vault
	plain plain
	safe  State
	since []State
}

// pairOf is one with so much room.
func pairOf(t *testing.T, room int) *pair {
	t.Helper()
	d := made(t, room)
	return &pair{d: d, v: opened(t, "empty", d), plain: plain{room: room}}
}

// last is the last state that was put, or the safe one.
func (p *pair) last() State {
	if len(p.since) == 0 {
		return p.safe
	}
	return p.since[len(p.since)-1]
}

// does does an act with both, and holds them against each other, and P7.2.
func (p *pair) does(t *testing.T, a act) api.Errno {
	t.Helper()
	want, got := p.plain.does(a), api.OK
	switch a.how {
	case toPut:
		got = p.v.Put(a.s)
		if got == api.OK {
			p.since = append(p.since, a.s)
		}
	case toSync:
		p.v.Sync()
		p.safe, p.since = p.last(), nil
	case toCrash:
		p.d.Crash(a.n)
		p.open(t)
		p.safe, p.since = p.v.State(), nil
	case toTear:
		if p.d.Write(slices.Repeat([]byte{255}, a.n)) == api.OK {
			p.open(t)
			p.safe, p.since = p.v.State(), nil
		}
	case toOpen:
		p.open(t)
	}
	if got != want {
		t.Errorf("act %v: error %d, not %d", a, got, want)
	}
	stands(t, "beside a plain one", p.v, p.d, p.plain.file, p.plain.safe*bytesOf)
	return got
}

// open opens the disk anew, and holds P7.2: the state then is one that was put, from the last safe one on; that one rises to it, and it to the last one.
func (p *pair) open(t *testing.T) {
	t.Helper()
	p.v = opened(t, "any time", p.d)
	s := p.v.State()
	if s != p.safe && !slices.Contains(p.since, s) {
		t.Errorf("the state is %v, which is neither the safe one, %v, nor put since: %v", s, p.safe, p.since)
	}
	if !plainRises(p.safe, s) || !Rises(p.safe, s) {
		t.Errorf("the safe one, %v, does not rise to %v", p.safe, s)
	}
	if !plainRises(s, p.last()) || !Rises(s, p.last()) {
		t.Errorf("%v does not rise to the last one, %v", s, p.last())
	}
}

// near is a state that often rises from another one by little, or is it; often goes back; and sometimes may not be.
func near(seed *uint64, s State) State {
	for _, p := range places() {
		x := *p.of(&s)
		switch draw(seed, 24) {
		case 0:
			x--
		case 1, 2, 3, 4, 5:
			x += 1 + draw(seed, 300)
		case 6:
			x = draw(seed, 4)
		}
		s = with(s, p, x)
	}
	switch draw(seed, 80) {
	case 0:
		s = with(s, places()[draw(seed, 4)], greatest+1+draw(seed, 2))
	case 1:
		s = with(s, places()[draw(seed, 4)], -1)
	}
	return s
}

// drawn is an act with such a pair.
func drawn(seed *uint64, p *pair) act {
	switch k := draw(seed, 100); {
	case k < 80:
		return act{how: toPut, s: near(seed, p.v.State())}
	case k < 88:
		return act{how: toSync}
	case k < 93:
		l := keeps(len(p.d.File()) - p.d.Safe())
		return act{how: toCrash, n: l[draw(seed, len(l))]}
	case k < 96:
		return act{how: toTear, n: 1 + draw(seed, bytesOf-1)}
	}
	return act{how: toOpen}
}

// TestBesideAPlainOne: T1 and P7.2, many acts in any order, on disks of small rooms and of great ones.
func TestBesideAPlainOne(t *testing.T) {
	seed := uint64(7)
	told := map[api.Errno]int{}
	most := 0
	for _, room := range []int{0, 31, 32, 33, 63, 64, 65, 95, 96, 100, 320, 500, 2047, 2048, 2079, 2080, 2081, 2500, 6000, roomy} {
		for range 8 {
			p := pairOf(t, room)
			for range 400 {
				a := drawn(&seed, p)
				got := p.does(t, a)
				if a.how == toPut {
					told[got]++
				}
				most = max(most, p.v.Records())
				if t.Failed() {
					t.Fatalf("room %d", room)
				}
			}
		}
	}
	for _, err := range []api.Errno{api.OK, api.ErrArg, api.ErrFull, api.ErrStale} {
		if told[err] < 200 {
			t.Errorf("of the Puts too few told %d: %v", err, told)
		}
	}
	if most <= stayMost {
		t.Errorf("there never were more than %d records", most)
	}
}

// TestOverManyRecords: P7.2, rows of Puts with few Syncs between, so that there often are more than 64 records.
func TestOverManyRecords(t *testing.T) {
	seed := uint64(77)
	var compact int
	for _, room := range []int{(stayMost + 1) * bytesOf, (stayMost+2)*bytesOf + 5, roomy} {
		for range 3 {
			p := pairOf(t, room)
			for range 30 {
				for range 30 + draw(&seed, 60) {
					p.does(t, act{how: toPut, s: near(&seed, p.v.State())})
				}
				if p.v.Records() > stayMost {
					compact++
				}
				p.does(t, act{how: toSync})
				for range draw(&seed, 5) {
					p.does(t, act{how: toPut, s: near(&seed, p.v.State())})
				}
				p.does(t, act{how: toCrash, n: draw(&seed, 5*bytesOf)})
				if t.Failed() {
					t.Fatalf("room %d", room)
				}
			}
		}
	}
	if compact < 60 {
		t.Errorf("only %d Syncs were of more than %d records", compact, stayMost)
	}
}

// TestCrashAtEachPlace: P7.2, a row of acts, and behind each a crash with each keep.
func TestCrashAtEachPlace(t *testing.T) {
	seed := uint64(777)
	for _, room := range []int{40, 3 * bytesOf, 7*bytesOf + 9, roomy} {
		for range 4 {
			p := pairOf(t, room)
			var l []act
			for range 12 {
				a := drawn(&seed, p)
				p.does(t, a)
				l = append(l, a)
			}
			for n := range len(l) + 1 {
				crashes(t, room, l[:n], keeps)
			}
		}
	}
}

// crashes does acts anew for each keep, and crashes behind them; what is put then goes on from what stayed.
func crashes(t *testing.T, room int, l []act, keeps func(loose int) []int) {
	t.Helper()
	loose := 0
	for i := 0; i == 0 || i < len(keeps(loose)); i++ {
		p := pairOf(t, room)
		for _, a := range l {
			p.does(t, a)
		}
		loose = len(p.d.File()) - p.d.Safe()
		p.does(t, act{how: toCrash, n: keeps(loose)[i]})
		p.does(t, act{how: toPut, s: p.v.State()})
		p.does(t, act{how: toSync})
		p.does(t, act{how: toCrash})
		if t.Failed() {
			t.Fatalf("room %d, acts %v, keep %d", room, l, keeps(loose)[i])
		}
	}
}

// TestCrashRoundTheMost: P7.2, 63 to 66 Puts, with a Sync at some place among them, or none, and a crash beside each edge of a record.
func TestCrashRoundTheMost(t *testing.T) {
	for n := stayMost - 1; n <= stayMost+2; n++ {
		for _, at := range []int{-1, 0, n / 2, n - 2} {
			var l []act
			for i, s := range upTo(n) {
				l = append(l, act{how: toPut, s: s})
				if i == at {
					l = append(l, act{how: toSync})
				}
			}
			crashes(t, (stayMost+1)*bytesOf, l, fewKeeps)
		}
	}
}

// TestApart: P2, two vaults on two disks know nothing of each other.
func TestApart(t *testing.T) {
	d, e := made(t, roomy), made(t, 2*bytesOf)
	v, w := opened(t, "the first", d), opened(t, "the second", e)
	l := upTo(4)
	puts(t, "the first", v, d, l[3], api.OK, l[3:], 0)
	puts(t, "the second", w, e, l[0], api.OK, l[:1], 0)
	puts(t, "the first", v, d, l[2], api.ErrStale, l[3:], 0)
	w.Sync()
	puts(t, "the second", w, e, l[1], api.OK, l[:2], bytesOf)
	puts(t, "the second", w, e, l[2], api.ErrFull, l[:2], bytesOf)
	stands(t, "the first", v, d, l[3:], 0)
	e.Crash(0)
	stands(t, "the second, anew", opened(t, "the second", e), e, l[:1], bytesOf)
	stands(t, "the first, anew", opened(t, "the first", d), d, l[3:], 0)
}

// everyCall is what all calls tell at all kinds of arguments, in drawn orders.
func everyCall(t *testing.T) []int {
	var out []int
	seed := uint64(70)
	note := func(v *Vault) {
		s := v.State()
		out = append(out, s.Promised, s.Gen, s.Hop, s.Round, v.Records())
	}
	for _, room := range []int{0, 31, 200, 2079, 2080, roomy} {
		p := pairOf(t, room)
		for range 300 {
			out = append(out, int(p.does(t, drawn(&seed, p))))
			note(p.v)
		}
	}
	for _, a := range ends() {
		for _, b := range ends() {
			s, r := State{a, b, a, b}, State{b, a, a, b}
			rise := 0
			if Rises(s, r) {
				rise = 1
			}
			d := made(t, roomy)
			v := opened(t, "empty", d)
			out = append(out, rise, int(v.Put(s)), int(v.Put(r)))
			note(v)
		}
	}
	return out
}

// TestArgumentsAlone: P1, every call ends and none panics; P2, what it answers hangs on its arguments and the calls ahead of it alone.
func TestArgumentsAlone(t *testing.T) {
	if !slices.Equal(everyCall(t), everyCall(t)) {
		t.Error("the same calls told something else")
	}
}
