package frame

import (
	"bytes"
	"math"
	"reflect"
	"slices"
	"testing"

	"annona/api"
)

// nums are numbers as bytes, for bytes that are written by hand.
func nums(l ...uint64) []byte {
	return plainBytes(l)
}

// written are frames of each kind, with their bytes, number by number, as the chapter's table tells them.
func written() []struct {
	name string
	f    api.Frame
	want []byte
} {
	return []struct {
		name string
		f    api.Frame
		want []byte
	}{
		{"a beat", api.Frame{Kind: api.Beat, From: 63, To: 5}, []byte{
			0, 0, 0, 0, 0, 0, 0, 3, 0, 0, 0, 0, 0, 0, 0, 63, 0, 0, 0, 0, 0, 0, 0, 5}},
		{"an ack", api.Frame{Kind: api.Ack, From: 3, To: 2, Gen: 258, Hop: 12}, []byte{
			0, 0, 0, 0, 0, 0, 0, 1, 0, 0, 0, 0, 0, 0, 0, 3, 0, 0, 0, 0, 0, 0, 0, 2,
			0, 0, 0, 0, 0, 0, 1, 2, 0, 0, 0, 0, 0, 0, 0, 12}},
		{"an elect", api.Frame{Kind: api.Elect, From: 1, To: 4, Gen: 9, Bits: 0x8000000000000012}, []byte{
			0, 0, 0, 0, 0, 0, 0, 2, 0, 0, 0, 0, 0, 0, 0, 1, 0, 0, 0, 0, 0, 0, 0, 4,
			0, 0, 0, 0, 0, 0, 0, 9, 128, 0, 0, 0, 0, 0, 0, 18}},
		{"all bits", api.Frame{Kind: api.Elect, Gen: most, Bits: math.MaxUint64}, nums(2, 0, 0, most, math.MaxUint64)},
		{"the least pass", api.Frame{Token: api.Token{Gen: 1, Stamps: []int{-1}}}, nums(0, 0, 0, 1, 0, 1, 0, 0, 0)},
		{"a pass without rows", passOf(api.Token{Gen: 6, Hop: 5, Stamps: []int{4, -1, end - 1}, Table: api.Table{Start: 3}}),
			nums(0, 2, 3, 6, 5, 3, 5, 0, end, 3, 0)},
		{"a pass with a row", passOf(api.Token{Gen: 6, Hop: 5, Stamps: []int{4}, Table: api.Table{Start: 3, Rows: []api.Row{{Key: 21, Avail: 22, Mark: 23}}}}),
			nums(0, 2, 3, 6, 5, 1, 5, 3, 1, 21, 22, 23, 0)},
		{"an ordinary pass", ordinaryPass(), nums(0, 2, 3, 7, 12, 4, 41, 0, 31, 36, 10, 3,
			3, 6, 13, 3, 0, 4, 2, 1, 3, 9,
			5, 0, 10, 0,
			65541, 2, 44, 1, 1, 8)},
	}
}

// TestEncode: M1, the bytes by what the table says.
func TestEncode(t *testing.T) {
	for _, c := range written() {
		if b, err := Encode(c.f); err != api.OK || !bytes.Equal(b, c.want) {
			t.Errorf("%s: %v, error %d, not %v", c.name, b, err, c.want)
		}
	}
}

// TestDecode: M1, the frame whose bytes they are.
func TestDecode(t *testing.T) {
	for _, c := range written() {
		if f, err := Decode(c.want); err != api.OK || !reflect.DeepEqual(normal(f), normal(c.f)) {
			t.Errorf("%s: %v, error %d, not %v", c.name, f, err, c.f)
		}
	}
}

// normal is a frame whose empty lists are nil, so that two can be held against each other without Same.
func normal(f api.Frame) api.Frame {
	f = copied(f)
	if len(f.Token.Stamps) == 0 {
		f.Token.Stamps = nil
	}
	if len(f.Token.Table.Rows) == 0 {
		f.Token.Table.Rows = nil
	}
	for i, r := range f.Token.Table.Rows {
		if len(r.Out) == 0 {
			f.Token.Table.Rows[i].Out = nil
		}
	}
	return f
}

// empty tells whether a frame has nothing at all.
func empty(f api.Frame) bool {
	return reflect.DeepEqual(normal(f), api.Frame{})
}

// none holds that bytes are none's: ErrForm, and an empty frame.
func none(t *testing.T, name string, b []byte) {
	t.Helper()
	if f, err := Decode(b); err != api.ErrForm || !empty(f) {
		t.Errorf("%s: %v, error %d, not ErrForm", name, f, err)
	}
}

// TestNoFrame: bytes that are none's.
func TestNoFrame(t *testing.T) {
	for _, c := range []struct {
		name string
		b    []byte
	}{
		{"nil", nil},
		{"no bytes", []byte{}},
		{"a byte", []byte{3}},
		{"a kind alone", nums(3)},
		{"a kind and From", nums(3, 0)},
		{"a beat with a number more", nums(3, 0, 0, 0)},
		{"an ack without Hop", nums(1, 0, 0, 1)},
		{"an ack with a number more", nums(1, 0, 0, 1, 0, 0)},
		{"an elect without bits", nums(2, 0, 0, 1)},
		{"an elect with a number more", nums(2, 0, 0, 1, 0, 0)},
		{"a kind that there is not", nums(4, 0, 0)},
		{"a kind that there is not, like an ack", nums(4, 0, 0, 1, 0)},
		{"a kind that there is not, like a pass", nums(256, 0, 0, 1, 0, 1, 0, 0, 0)},
		{"the greatest number as a kind", nums(end, 0, 0)},
		{"a kind above 2^62", nums(end+1, 0, 0)},
		{"a kind of all ones", nums(math.MaxUint64, 0, 0)},
		{"a kind in another order of bytes", append([]byte{3, 0, 0, 0, 0, 0, 0, 0}, nums(0, 0)...)},
		{"From 64", nums(3, 64, 0)},
		{"To 64", nums(3, 0, 64)},
		{"From of all ones", nums(3, math.MaxUint64, 0)},
		{"an ack with Gen 0", nums(1, 0, 0, 0, 0)},
		{"an ack with Gen above 2^40", nums(1, 0, 0, most+1, 0)},
		{"an ack with Hop above 2^40", nums(1, 0, 0, 1, most+1)},
		{"an ack with Hop above 2^62", nums(1, 0, 0, 1, end+1)},
		{"an elect with Gen 0", nums(2, 0, 0, 0, 5)},
		{"an elect with Gen above 2^40", nums(2, 0, 0, most+1, 5)},
		{"a pass with nothing", nums(0, 0, 0)},
		{"a token with Gen 0", nums(0, 0, 0, 0, 0, 1, 0, 0, 0)},
		{"a token with Gen above 2^40", nums(0, 0, 0, most+1, 0, 1, 0, 0, 0)},
		{"a token with Hop above 2^40", nums(0, 0, 0, 1, most+1, 1, 0, 0, 0)},
		{"no stamps", nums(0, 0, 0, 1, 0, 0, 0, 0)},
		{"more stamps told than there are", nums(0, 0, 0, 1, 0, 2, 0, 0, 0)},
		{"fewer stamps told than there are", nums(0, 0, 0, 1, 0, 1, 0, 0, 0, 0)},
		{"2^62 stamps told", nums(0, 0, 0, 1, 0, end, 0, 0, 0)},
		{"a stamp above 2^62", nums(0, 0, 0, 1, 0, 1, end+1, 0, 0)},
		{"Start above 2^62", nums(0, 0, 0, 1, 0, 1, 0, end+1, 0)},
		{"more rows told than there are", nums(0, 0, 0, 1, 0, 1, 0, 0, 1)},
		{"2^62 rows told", nums(0, 0, 0, 1, 0, 1, 0, 0, end)},
		{"a key that is none", nums(0, 0, 0, 1, 0, 1, 0, 0, 1, topKey+1, 0, 0, 0)},
		{"Avail above 2^31", nums(0, 0, 0, 1, 0, 1, 0, 0, 1, 0, span+1, 0, 0)},
		{"Mark below Start", nums(0, 0, 0, 1, 0, 1, 0, 5, 1, 0, 0, 4, 0)},
		{"keys are equal", nums(0, 0, 0, 1, 0, 1, 0, 0, 2, 6, 0, 0, 0, 6, 0, 0, 0)},
		{"keys fall", nums(0, 0, 0, 1, 0, 1, 0, 0, 2, 6, 0, 0, 0, 5, 0, 0, 0)},
		{"more leases told than there are", nums(0, 0, 0, 1, 0, 1, 0, 0, 1, 0, 0, 0, 1)},
		{"2^62 leases told", nums(0, 0, 0, 1, 0, 1, 0, 0, 1, 0, 0, 0, end)},
		{"a lease of 0", nums(0, 0, 0, 1, 0, 1, 0, 0, 1, 0, 0, 0, 1, 3, 0)},
		{"a lease above 2^31", nums(0, 0, 0, 1, 0, 1, 0, 0, 1, 0, 0, 0, 1, 3, span+1)},
		{"a lease of node 64", nums(0, 0, 0, 1, 0, 1, 0, 0, 1, 0, 0, 0, 1, 64, 1)},
		{"leases of one node", nums(0, 0, 0, 1, 0, 1, 0, 0, 1, 0, 0, 0, 2, 3, 1, 3, 1)},
		{"leases whose nodes fall", nums(0, 0, 0, 1, 0, 1, 0, 0, 1, 0, 0, 0, 2, 3, 1, 2, 1)},
	} {
		none(t, c.name, c.b)
	}
}

// TestWholeBytesOfNone: bytes that are whole, of tokens with more than there may be.
func TestWholeBytesOfNone(t *testing.T) {
	for name, change := range map[string]func(t *api.Token){
		"65 stamps":                func(t *api.Token) { t.Stamps = stamps(65) },
		"17 rows":                  func(t *api.Token) { t.Table.Rows = rows(17, 1) },
		"65 leases":                func(t *api.Token) { t.Table.Rows[3].Out = leases(65) },
		"65 leases, one of a node": func(t *api.Token) { t.Table.Rows[3].Out = append(leases(64), api.Lease{Node: 63, Amount: 1}) },
		"500 stamps":               func(t *api.Token) { t.Stamps = stamps(500) },
		"500 rows":                 func(t *api.Token) { t.Table.Rows = rows(500, 1) },
		"500 leases":               func(t *api.Token) { t.Table.Rows[3].Out = leases(500) },
	} {
		token := greatToken()
		change(&token)
		none(t, name, plain(passOf(token)))
	}
}

// TestDecodeEachNumber: of whole bytes, each number of a frame at, beside and far from its bounds.
func TestDecodeEachNumber(t *testing.T) {
	for _, base := range ordinary() {
		l := frameNumbers(base)[:2]
		switch base.Kind {
		case api.Pass:
			l = slices.Concat(l, tokenNumbers(base), tableNumbers(base))
		case api.Ack:
			l = frameNumbers(base)
		case api.Elect:
			l = frameNumbers(base)[:3]
		}
		for _, n := range l {
			for _, x := range n.tries() {
				f := changed(base, func(f *api.Frame) { *n.at(f) = x })
				if !n.mayBe(x) {
					none(t, n.name, plain(f))
				} else if got, err := Decode(plain(f)); err != api.OK || !Same(got, f) {
					t.Errorf("%s is %d: %v, error %d", n.name, x, got, err)
				}
			}
		}
	}
}

// isFrame tells whether numbers are a frame's, by the chapter's words alone, without any frame.
func isFrame(l []uint64) bool {
	if len(l) < 3 || l[1] > 63 || l[2] > 63 {
		return false
	}
	rest := l[3:]
	switch l[0] {
	case 0:
		return isToken(rest)
	case 1:
		return len(rest) == 2 && rest[0] >= 1 && rest[0] <= most && rest[1] <= most
	case 2:
		return len(rest) == 2 && rest[0] >= 1 && rest[0] <= most
	case 3:
		return len(rest) == 0
	}
	return false
}

// isToken tells whether numbers are a token's.
func isToken(l []uint64) bool {
	if len(l) < 3 || l[0] < 1 || l[0] > most || l[1] > most || l[2] < 1 || l[2] > 64 || len(l) < 3+int(l[2])+2 {
		return false
	}
	for _, x := range l[3 : 3+l[2]] {
		if x > end {
			return false
		}
	}
	l = l[3+l[2]:]
	start, count := l[0], l[1]
	if start > end || count > 16 {
		return false
	}
	l = l[2:]
	for i, last := 0, uint64(0); i < int(count); i++ {
		if len(l) < 4 || l[0] > topKey || i > 0 && l[0] <= last || l[1] > span || l[2] < start || l[2] > end || l[3] > 64 || len(l) < 4+2*int(l[3]) {
			return false
		}
		out := l[4 : 4+2*l[3]]
		for j := 0; j < len(out); j += 2 {
			if out[j] > 63 || j > 0 && out[j] <= out[j-2] || out[j+1] < 1 || out[j+1] > span {
				return false
			}
		}
		last, l = l[0], l[4+2*l[3]:]
	}
	return len(l) == 0
}

// holdDecode holds what Decode tells of numbers against what the chapter's words tell of them.
func holdDecode(t *testing.T, l []uint64) {
	t.Helper()
	b := plainBytes(l)
	if !isFrame(l) {
		none(t, "numbers that are none's", b)
		return
	}
	f, err := Decode(b)
	if err != api.OK || !Right(f) || !slices.Equal(plainNumbers(f), l) {
		t.Errorf("%v: %v, error %d", l, f, err)
	}
}

// strange are numbers to put among a frame's.
func strange() []uint64 {
	l := []uint64{1 << 63, 1<<63 + 1, math.MaxUint64, 5, 6, 7, 9, 10, 11, 12, 13, 14, 44, 65540, 65541, 65542}
	for _, x := range ints() {
		l = append(l, uint64(x))
	}
	return l
}

// TestOtherNumbers: wherever in a frame's bytes another number stands, one is missing, or one is more.
func TestOtherNumbers(t *testing.T) {
	small := passOf(api.Token{Gen: 1, Stamps: []int{3, 4}, Table: api.Table{Start: 4, Rows: rows(2, 2)}})
	for _, f := range append(ordinary(), passOf(leastToken()), small) {
		l := plainNumbers(f)
		for i := range l {
			for _, x := range strange() {
				other := slices.Clone(l)
				other[i] = x
				holdDecode(t, other)
				holdDecode(t, slices.Insert(slices.Clone(l), i, x))
			}
			holdDecode(t, slices.Delete(slices.Clone(l), i, i+1))
		}
	}
}

// TestDrawnNumbers: small numbers of all kinds, most of them none's, and frames with a few of their numbers changed.
func TestDrawnNumbers(t *testing.T) {
	seed := uint64(53)
	right := 0
	for range 60000 {
		l := make([]uint64, draw(&seed, 14))
		for i := range l {
			l[i] = uint64(draw(&seed, 4))
		}
		if isFrame(l) {
			right++
		}
		holdDecode(t, l)
	}
	if right < 100 {
		t.Errorf("only %d of those drawn were frames", right)
	}
	odd := strange()
	for range 4000 {
		l := plainNumbers(drawnFrame(&seed))
		for range draw(&seed, 3) {
			l[draw(&seed, len(l))] = odd[draw(&seed, len(odd))]
		}
		holdDecode(t, l)
	}
}

// TestDrawnBytes: P1, any bytes; what is decoded of them has just these.
func TestDrawnBytes(t *testing.T) {
	seed := uint64(54)
	for n := range 400 {
		b := make([]byte, n)
		for i := range b {
			b[i] = byte(draw(&seed, 256))
		}
		none(t, "drawn bytes", b)
	}
}

// TestThereAndBack: P5.2, a frame is decoded from its bytes, and what is decoded has them.
func TestThereAndBack(t *testing.T) {
	l := frames()
	seed := uint64(55)
	for range 400 {
		l = append(l, drawnFrame(&seed))
	}
	for i, f := range l {
		b, err := Encode(f)
		if err != api.OK || len(b) != 8*len(plainNumbers(f)) {
			t.Fatalf("frame %d: %d bytes, error %d", i, len(b), err)
		}
		got, err := Decode(b)
		if err != api.OK || !Same(got, f) || !reflect.DeepEqual(normal(got), normal(f)) {
			t.Fatalf("frame %d: %v, error %d, not %v", i, got, err, f)
		}
		again, err := Encode(got)
		if err != api.OK || !bytes.Equal(again, b) {
			t.Fatalf("frame %d: what is decoded has %v, error %d", i, again, err)
		}
	}
}

// TestPartsAreNones: P5.2, each part of a frame's bytes, from the beginning, is none's; nor are they with more behind them.
func TestPartsAreNones(t *testing.T) {
	for _, f := range frames() {
		b := plain(f)
		for n := range len(b) {
			if got, err := Decode(b[:n]); err != api.ErrForm || !empty(got) {
				t.Fatalf("%d of %d bytes: %v, error %d", n, len(b), got, err)
			}
		}
		for _, more := range [][]byte{{0}, {1}, {255}, make([]byte, 7), make([]byte, 8), make([]byte, 16), b} {
			none(t, "more bytes", slices.Concat(b, more))
		}
		none(t, "without the first byte", b[1:])
		none(t, "without the first number", b[8:])
	}
}

// TestBitsTurned: with any bit turned, bytes are another frame's, or none's.
func TestBitsTurned(t *testing.T) {
	for _, f := range append(ordinary(), passOf(leastToken())) {
		b := plain(f)
		for i := range 8 * len(b) {
			other := slices.Clone(b)
			other[i/8] ^= 1 << (i % 8)
			got, err := Decode(other)
			if err != api.OK {
				continue
			}
			if again, err := Encode(got); Same(got, f) || err != api.OK || !bytes.Equal(again, other) {
				t.Errorf("bit %d turned: %v", i, got)
			}
		}
	}
}

// TestEncodeLeavesAlone: rule 4, what is handed in is left as it was, and what is told is new memory.
func TestEncodeLeavesAlone(t *testing.T) {
	wrong := ordinaryPass()
	wrong.Token.Table.Rows[2].Out[0].Amount = 0
	for _, f := range append(frames(), wrong, api.Frame{}) {
		was := copied(f)
		first, err := Encode(f)
		second, _ := Encode(f)
		if !reflect.DeepEqual(f, was) {
			t.Fatalf("what was handed in is %v, not %v", f, was)
		}
		if err != api.OK {
			continue
		}
		for i := range first {
			first[i] = 255
		}
		first = append(first, 255, 255, 255, 255, 255, 255, 255, 255)
		third, _ := Encode(f)
		if want := plain(was); !bytes.Equal(second, want) || !bytes.Equal(third, want) || !reflect.DeepEqual(f, was) {
			t.Errorf("what was told shares memory: %v, %v, beside %d", second, third, len(first))
		}
	}
}

// TestEncodeBehindLength: rule 4, what lies behind a list's length is neither read nor written.
func TestEncodeBehindLength(t *testing.T) {
	wholeStamps, wholeRows, wholeOut := []int{4, 5, -9}, append(rows(2, 1), api.Row{Key: -9}), append(leases(2), api.Lease{Node: -9})
	wholeRows[1].Out = wholeOut[:2]
	f := passOf(api.Token{Gen: 1, Stamps: wholeStamps[:2], Table: api.Table{Rows: wholeRows[:2]}})
	hold(t, "things behind lists' lengths", f, true)
	if wholeStamps[2] != -9 || wholeRows[2].Key != -9 || wholeOut[2].Node != -9 {
		t.Errorf("what lay behind is %v, %v, %v", wholeStamps, wholeRows, wholeOut)
	}
}

// TestDecodeLeavesAlone: rule 4, bytes are neither written into nor kept, nor read behind their length, and what is told is new memory.
func TestDecodeLeavesAlone(t *testing.T) {
	for _, f := range frames() {
		b := plain(f)
		whole := append(slices.Clone(b), 1, 2, 3, 4, 5, 6, 7, 8)
		was := slices.Clone(whole)
		first, err := Decode(whole[:len(b)])
		second, _ := Decode(whole[:len(b)])
		if err != api.OK || !bytes.Equal(whole, was) {
			t.Fatalf("error %d, and the bytes are %v", err, whole)
		}
		for i := range whole {
			whole[i] = 255
		}
		if !Same(first, f) || !Same(second, f) {
			t.Errorf("the bytes were kept: %v", first)
		}
		writeInto(first.Token)
		if !Same(second, f) {
			t.Errorf("two answers share memory: %v", second)
		}
		for i := range whole {
			if whole[i] != 255 {
				t.Errorf("byte %d was written into", i)
			}
		}
		none(t, "bytes of all ones", whole)
	}
}

// TestDecodedListsApart: rule 4, no two lists of one answer share memory.
func TestDecodedListsApart(t *testing.T) {
	f, err := Decode(plain(passOf(greatToken())))
	if err != api.OK {
		t.Fatalf("error %d", err)
	}
	want := greatToken()
	for i := range f.Token.Table.Rows {
		out := f.Token.Table.Rows[i].Out
		out[0].Amount, out[63].Amount = i+1, i+2
		want.Table.Rows[i].Out[0].Amount, want.Table.Rows[i].Out[63].Amount = i+1, i+2
		// Behind its length, too, where another list might lie.
		more := append(out, api.Lease{Node: -5, Amount: -5})
		if !SameToken(f.Token, want) || more[64].Node != -5 {
			t.Fatalf("row %d shares its leases with others", i)
		}
	}
}

// everyCall is what all calls tell of frames of all kinds, two by two, such as may not be too.
func everyCall() []any {
	var out []any
	seed := uint64(56)
	var l []api.Frame
	for range 60 {
		f := drawnFrame(&seed)
		all := slices.Concat(frameNumbers(f), tokenNumbers(f), tableNumbers(f))
		for range draw(&seed, 3) {
			*all[draw(&seed, len(all))].at(&f) = ints()[draw(&seed, len(ints()))]
		}
		if draw(&seed, 5) == 0 {
			f.Kind = api.Kind(ints()[draw(&seed, len(ints()))])
		}
		l = append(l, f)
	}
	for _, f := range l {
		b, err := Encode(f)
		g, wrong := Decode(plain(f))
		out = append(out, Table(f.Token.Table), Token(f.Token), Right(f), b, err, g, wrong, Clone(f.Token))
		for _, g := range l {
			out = append(out, SameTable(f.Token.Table, g.Token.Table), SameToken(f.Token, g.Token), Same(f, g))
		}
	}
	return out
}

// TestArgumentsAlone: P1, every call ends and none panics; P2, what it answers hangs on its arguments alone.
func TestArgumentsAlone(t *testing.T) {
	if !reflect.DeepEqual(everyCall(), everyCall()) {
		t.Error("the same calls told something else")
	}
}

// TestGreatLists: P1, lists far longer than there may be.
func TestGreatLists(t *testing.T) {
	token := api.Token{Gen: 1, Stamps: stamps(100000), Table: api.Table{Rows: rows(3000, 50)}}
	token.Table.Rows[0].Out = leases(100000)
	f := passOf(token)
	hold(t, "great lists", f, false)
	if !Same(f, passOf(Clone(token))) || Same(f, ordinaryPass()) || Table(token.Table) || Token(token) {
		t.Error("great lists are told wrongly")
	}
	none(t, "their bytes", plain(f))
	none(t, "a million of noughts", make([]byte, 1<<20))
}
