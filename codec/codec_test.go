package codec

import (
	"bytes"
	"math"
	"slices"
	"testing"

	"annona/api"
)

const end = 1 << 62

// ints are ints at and beside all that the chapter names, and at the ends of each byte.
func ints() []int {
	l := []int{math.MinInt, math.MinInt + 1, -end - 1, -end, -256, -2, -1, 0, 1, 2, 127, 128, 254, end - 1, end, end + 1, end + 2, math.MaxInt - 1, math.MaxInt}
	for shift := 8; shift < 63; shift += 8 {
		l = append(l, 1<<shift-1, 1<<shift, 1<<shift+1)
	}
	return append(l, 0x0102030405060708, 0x2011223344556677)
}

// mayBe tells whether an int is a number, by the chapter's words.
func mayBe(x int) bool {
	return x >= 0 && x <= end
}

// numbers are those of the ints that are numbers.
func numbers() []int {
	return slices.DeleteFunc(ints(), func(x int) bool { return !mayBe(x) })
}

// wrong are those of the ints that are no numbers.
func wrong() []int {
	return slices.DeleteFunc(ints(), mayBe)
}

// patterns are bits of all kinds.
func patterns() []uint64 {
	l := []uint64{0, 1, math.MaxUint64, math.MaxUint64 - 1, 1 << 63, 1<<63 - 1, 1<<63 + 1, 0x0123456789abcdef, 0xfedcba9876543210, 0x5555555555555555, 0xaaaaaaaaaaaaaaaa}
	for _, x := range ints() {
		l = append(l, uint64(x))
	}
	for i := range 64 {
		l = append(l, 1<<i, ^(uint64(1) << i))
	}
	return l
}

// draw is a fixed rule's next: the same ones each time.
func draw(x *uint64) uint64 {
	*x = *x*6364136223846793005 + 1442695040888963407
	return *x >> 11
}

// plain is x as eight bytes, the highest first, worked out one by one by dividing.
func plain(x uint64) []byte {
	l := make([]byte, 8)
	for i := 7; i >= 0; i-- {
		l[i] = byte(x % 256)
		x /= 256
	}
	return l
}

// plainAll are many of these, one behind the other.
func plainAll(l ...uint64) []byte {
	var out []byte
	for _, x := range l {
		out = append(out, plain(x)...)
	}
	return out
}

// told is what Done tells, of a Writer that must tell bytes.
func told(t *testing.T, w *Writer) []byte {
	t.Helper()
	b, err := w.Done()
	if err != api.OK {
		t.Fatalf("Done: error %d", err)
	}
	return b
}

// refused holds that Done tells ErrArg, and nothing beside it.
func refused(t *testing.T, name string, w *Writer) {
	t.Helper()
	if b, err := w.Done(); len(b) != 0 || err != api.ErrArg {
		t.Errorf("%s: %v, error %d, not ErrArg", name, b, err)
	}
}

// failed holds that a reader tells 0 always, and ErrForm.
func failed(t *testing.T, name string, r *Reader) {
	t.Helper()
	for range 3 {
		if err := r.Done(); err != api.ErrForm {
			t.Errorf("%s: Done is %d, not ErrForm", name, err)
		}
		if x, y, z := r.Num(), r.Upto(end), r.Bits(); x != 0 || y != 0 || z != 0 {
			t.Errorf("%s: it failed, and tells %d, %d, %d", name, x, y, z)
		}
		if x := r.Upto(-1); x != 0 {
			t.Errorf("%s: it failed, and tells %d, that is not above -1", name, x)
		}
	}
	if err := r.Done(); err != api.ErrForm {
		t.Errorf("%s: Done is %d at last, not ErrForm", name, err)
	}
}

func TestLimits(t *testing.T) {
	if api.Forever != end {
		t.Errorf("the greatest number is %d", api.Forever)
	}
}

func TestWriteOrdinary(t *testing.T) {
	for _, r := range []struct {
		name  string
		write func(w *Writer)
		want  []byte
	}{
		{"nothing", func(w *Writer) {}, nil},
		{"no numbers", func(w *Writer) { w.Num() }, nil},
		{"an empty list of numbers", func(w *Writer) { w.Num([]int{}...) }, nil},
		{"a nil list of numbers", func(w *Writer) { w.Num([]int(nil)...) }, nil},
		{"0", func(w *Writer) { w.Num(0) }, []byte{0, 0, 0, 0, 0, 0, 0, 0}},
		{"5", func(w *Writer) { w.Num(5) }, []byte{0, 0, 0, 0, 0, 0, 0, 5}},
		{"258", func(w *Writer) { w.Num(258) }, []byte{0, 0, 0, 0, 0, 0, 1, 2}},
		{"all bytes", func(w *Writer) { w.Num(0x0102030405060708) }, []byte{1, 2, 3, 4, 5, 6, 7, 8}},
		{"2^62", func(w *Writer) { w.Num(end) }, []byte{64, 0, 0, 0, 0, 0, 0, 0}},
		{"one less", func(w *Writer) { w.Num(end - 1) }, []byte{63, 255, 255, 255, 255, 255, 255, 255}},
		{"several at once", func(w *Writer) { w.Num(1, 2, 3) }, plainAll(1, 2, 3)},
		{"several, one by one", func(w *Writer) { w.Num(1); w.Num(2); w.Num(3) }, plainAll(1, 2, 3)},
		{"several, one behind the other", func(w *Writer) { w.Num(1).Num(2, 3).Num().Num(4) }, plainAll(1, 2, 3, 4)},
		{"bits of 0", func(w *Writer) { w.Bits(0) }, []byte{0, 0, 0, 0, 0, 0, 0, 0}},
		{"bits of all ones", func(w *Writer) { w.Bits(math.MaxUint64) }, []byte{255, 255, 255, 255, 255, 255, 255, 255}},
		{"the highest bit", func(w *Writer) { w.Bits(1 << 63) }, []byte{128, 0, 0, 0, 0, 0, 0, 0}},
		{"the lowest bit", func(w *Writer) { w.Bits(1) }, []byte{0, 0, 0, 0, 0, 0, 0, 1}},
		{"bits ahead of a number", func(w *Writer) { w.Bits(9).Num(4) }, plainAll(9, 4)},
		{"bits behind a number", func(w *Writer) { w.Num(4).Bits(9) }, plainAll(4, 9)},
		{"bits between numbers", func(w *Writer) { w.Num(7, 8).Bits(math.MaxUint64).Bits(0).Num(end) }, plainAll(7, 8, math.MaxUint64, 0, end)},
	} {
		var w Writer
		r.write(&w)
		if got := told(t, &w); !bytes.Equal(got, r.want) {
			t.Errorf("%s: %v, not %v", r.name, got, r.want)
		}
	}
}

// TestWriteEachNumber: each number alone, and each that is none.
func TestWriteEachNumber(t *testing.T) {
	for _, x := range ints() {
		got, err := new(Writer).Num(x).Done()
		if !mayBe(x) {
			if len(got) != 0 || err != api.ErrArg {
				t.Errorf("%d: %v, error %d, not ErrArg", x, got, err)
			}
			continue
		}
		if err != api.OK || !bytes.Equal(got, plain(uint64(x))) {
			t.Errorf("%d: %v, error %d", x, got, err)
		}
	}
}

func TestWriteEachBits(t *testing.T) {
	for _, x := range patterns() {
		if got := told(t, new(Writer).Bits(x)); !bytes.Equal(got, plain(x)) {
			t.Errorf("%x: %v", x, got)
		}
	}
}

// TestWriterItself: W1, Num and Bits tell the Writer, whatever is written, a wrong one too.
func TestWriterItself(t *testing.T) {
	var w Writer
	for i, got := range []*Writer{w.Num(), w.Num(4), w.Num(1, 2, 3), w.Bits(0), w.Bits(math.MaxUint64), w.Num(-1), w.Num(), w.Num(4), w.Bits(7), w.Num(end + 1)} {
		if got != &w {
			t.Errorf("call %d told another Writer", i)
		}
	}
}

// TestOnceWrongAlwaysWrong: W1, a number that may not be, anywhere among others, and good ones behind it.
func TestOnceWrongAlwaysWrong(t *testing.T) {
	for _, x := range wrong() {
		for i := range 4 {
			l := slices.Insert([]int{1, 2, 3}, i, x)
			var w Writer
			refused(t, "at once", w.Num(l...))
			refused(t, "asked again", &w)
			refused(t, "no numbers behind it", w.Num())
			refused(t, "good ones behind it", w.Num(4, 5))
			refused(t, "bits behind it", w.Bits(6))
			refused(t, "another wrong one behind it", w.Num(x))
			refused(t, "good ones behind that", w.Num(7))
			var one Writer
			for _, y := range l {
				one.Num(y).Bits(0)
			}
			refused(t, "one by one", &one)
		}
	}
	var w Writer
	w.Num(1, 2).Bits(3)
	if got := told(t, &w); len(got) != 24 {
		t.Errorf("ahead of a wrong one: %v", got)
	}
	refused(t, "behind Done", w.Num(-1))
	refused(t, "behind that Done", w.Num(1))
	var other Writer
	if got := told(t, other.Num(1)); !bytes.Equal(got, plain(1)) {
		t.Errorf("another Writer, beside a wrong one: %v", got)
	}
}

// TestDoneAndOn: Done twice tells the same; what is written behind it comes behind all others.
func TestDoneAndOn(t *testing.T) {
	var w Writer
	var want []byte
	for i := range 100 {
		for range 2 {
			if got := told(t, &w); !bytes.Equal(got, want) {
				t.Fatalf("before %d: %v, not %v", i, got, want)
			}
		}
		if i%2 == 0 {
			w.Num(i, i+1)
			want = append(want, plainAll(uint64(i), uint64(i+1))...)
		} else {
			w.Bits(^uint64(i))
			want = append(want, plain(^uint64(i))...)
		}
	}
}

func TestReadOrdinary(t *testing.T) {
	r := Read([]byte{0, 0, 0, 0, 0, 0, 1, 2, 255, 0, 0, 0, 0, 0, 0, 3, 64, 0, 0, 0, 0, 0, 0, 0, 1, 2, 3, 4, 5, 6, 7, 8})
	if err := r.Done(); err != api.ErrForm {
		t.Errorf("Done of all bytes left: %d", err)
	}
	if x := r.Num(); x != 258 {
		t.Errorf("Num: %d", x)
	}
	if x := r.Bits(); x != 0xff00000000000003 {
		t.Errorf("Bits: %x", x)
	}
	if x := r.Upto(end); x != end {
		t.Errorf("Upto: %d", x)
	}
	if err := r.Done(); err != api.ErrForm {
		t.Errorf("Done of eight bytes left: %d", err)
	}
	if x := r.Num(); x != 0x0102030405060708 {
		t.Errorf("Num behind Done: %d", x)
	}
	for range 2 {
		if err := r.Done(); err != api.OK {
			t.Errorf("Done of none left: %d", err)
		}
	}
	if x := r.Num(); x != 0 {
		t.Errorf("Num of none left: %d", x)
	}
	failed(t, "read on behind Done", r)
}

// takers are the calls that take something, as bits.
func takers() map[string]func(r *Reader) uint64 {
	return map[string]func(r *Reader) uint64{
		"Num":  func(r *Reader) uint64 { return uint64(r.Num()) },
		"Upto": func(r *Reader) uint64 { return uint64(r.Upto(end)) },
		"Bits": func(r *Reader) uint64 { return r.Bits() },
	}
}

// TestReadLengths: no bytes, nil, and up to three numbers' bytes, by each call.
func TestReadLengths(t *testing.T) {
	if err := Read(nil).Done(); err != api.OK {
		t.Errorf("Done of nil: %d", err)
	}
	if err := Read([]byte{}).Done(); err != api.OK {
		t.Errorf("Done of no bytes: %d", err)
	}
	whole := []byte{1, 2, 3, 4, 5, 6, 7, 8, 9, 10, 11, 12, 13, 14, 15, 16, 17, 18, 19, 20, 21, 22, 23, 24}
	want := []uint64{0x0102030405060708, 0x090a0b0c0d0e0f10, 0x1112131415161718}
	for name, take := range takers() {
		failed(t, name+" of nil", func() *Reader { r := Read(nil); take(r); return r }())
		for n := range len(whole) + 1 {
			// The bytes behind the length are there, and must not be read.
			r := Read(whole[:n])
			if err := r.Done(); (err == api.OK) != (n == 0) {
				t.Errorf("%s of %d bytes: Done is %d ahead", name, n, err)
			}
			for i := range n / 8 {
				if x := take(r); x != want[i] {
					t.Errorf("%s of %d bytes, %d: %x", name, n, i, x)
				}
			}
			wantErr := api.OK
			if n%8 != 0 {
				wantErr = api.ErrForm
			}
			if err := r.Done(); err != wantErr {
				t.Errorf("%s of %d bytes: Done is %d, not %d", name, n, err, wantErr)
			}
			if x := take(r); x != 0 {
				t.Errorf("%s of %d bytes left: %d", name, n%8, x)
			}
			failed(t, name+" of what does not come whole", r)
		}
	}
}

// TestReadAbove: eight bytes that are no number, with whole numbers behind them.
func TestReadAbove(t *testing.T) {
	for _, x := range patterns() {
		b := plainAll(3, x, 4, 5)
		for name, take := range takers() {
			r := Read(b)
			if got := take(r); got != 3 {
				t.Errorf("%s: %d, not 3", name, got)
			}
			got := take(r)
			if name != "Bits" && x > end {
				if got != 0 {
					t.Errorf("%s of %x: %d", name, x, got)
				}
				failed(t, name+" of what is above 2^62", r)
				continue
			}
			if got != x || take(r) != 4 || take(r) != 5 || r.Done() != api.OK {
				t.Errorf("%s of %x: %x, Done is %d", name, x, got, r.Done())
			}
		}
	}
}

// TestUpto: a number beside, at and far from most, and any bytes.
func TestUpto(t *testing.T) {
	for _, r := range []struct {
		name string
		x    uint64
		most int
		ok   bool
	}{
		{"just below", 8, 9, true},
		{"at", 9, 9, true},
		{"just above", 10, 9, false},
		{"far above", end, 9, false},
		{"0 of 0", 0, 0, true},
		{"1 of 0", 1, 0, false},
		{"0 of below 0", 0, -1, false},
		{"1 of below 0", 1, -1, false},
		{"0 of the least int", 0, math.MinInt, false},
		{"2^62 of it", end, end, true},
		{"2^62 of one less", end, end - 1, false},
		{"2^62 of one more", end, end + 1, true},
		{"one above 2^62 of one above", end + 1, end + 1, false},
		{"one above 2^62 of the greatest int", end + 1, math.MaxInt, false},
		{"the greatest int of itself", math.MaxInt, math.MaxInt, false},
		{"2^63 of the greatest int", 1 << 63, math.MaxInt, false},
		{"2^63 of below 0", 1 << 63, -1, false},
		{"all ones of the greatest int", math.MaxUint64, math.MaxInt, false},
		{"all ones of -1", math.MaxUint64, -1, false},
		{"5 of the greatest int", 5, math.MaxInt, true},
	} {
		tryUpto(t, r.name, r.x, r.most, r.ok)
	}
	for _, x := range patterns() {
		for _, most := range ints() {
			tryUpto(t, "any", x, most, x <= end && most >= 0 && x <= uint64(most))
		}
	}
}

// tryUpto reads x, with a number behind it that would still come.
func tryUpto(t *testing.T, name string, x uint64, most int, ok bool) {
	t.Helper()
	r := Read(plainAll(x, 6))
	got := r.Upto(most)
	if !ok {
		if got != 0 {
			t.Errorf("%s: %x up to %d: %d", name, x, most, got)
		}
		failed(t, name, r)
		return
	}
	if uint64(got) != x || r.Done() != api.ErrForm || r.Num() != 6 || r.Done() != api.OK {
		t.Errorf("%s: %x up to %d: %d", name, x, most, got)
	}
}

// TestReadMany: many numbers, one by one, and none behind them.
func TestReadMany(t *testing.T) {
	var l []uint64
	for i := range 5000 {
		l = append(l, uint64(i*i*i))
	}
	r := Read(plainAll(l...))
	for i, x := range l {
		if got := r.Num(); uint64(got) != x {
			t.Fatalf("number %d: %d, not %d", i, got, x)
		}
		if err := r.Done(); (err == api.OK) != (i == len(l)-1) {
			t.Fatalf("behind number %d: Done is %d", i, err)
		}
	}
}

// item is something that is written, and read: bits, or a number, up to most or not.
type item struct {
	how  int // 0: Num, 1: Upto, 2: Bits
	x    uint64
	most int
}

// items are drawn ones.
func items(seed *uint64, n int) []item {
	l := make([]item, n)
	nums, bits := numbers(), patterns()
	for i := range l {
		switch how := draw(seed) % 3; how {
		case 2:
			l[i] = item{2, bits[draw(seed)%uint64(len(bits))], 0}
		default:
			x := nums[draw(seed)%uint64(len(nums))]
			l[i] = item{int(how), uint64(x), x + int(draw(seed)%3)}
		}
	}
	return l
}

// written are the items, as bytes.
func written(t *testing.T, l []item) []byte {
	t.Helper()
	var w Writer
	for _, x := range l {
		if x.how == 2 {
			w.Bits(x.x)
		} else {
			w.Num(int(x.x))
		}
	}
	return told(t, &w)
}

// readBack reads bytes as the items are: whether each is what it was, and what Done tells.
func readBack(b []byte, l []item) (bool, api.Errno) {
	r := Read(b)
	same := true
	for _, x := range l {
		got := x.x
		switch x.how {
		case 0:
			got = uint64(r.Num())
		case 1:
			got = uint64(r.Upto(x.most))
		default:
			got = r.Bits()
		}
		same = same && got == x.x
	}
	return same, r.Done()
}

// TestThereAndBack: P4.2, what was written is read, and nothing is left; with a byte fewer, or more, it is not.
func TestThereAndBack(t *testing.T) {
	seed := uint64(4)
	for n := range 40 {
		for range 5 {
			l := items(&seed, n)
			b := written(t, l)
			if len(b) != 8*n {
				t.Fatalf("%d items are %d bytes", n, len(b))
			}
			if same, err := readBack(b, l); !same || err != api.OK {
				t.Errorf("%v: read back %t, error %d", l, same, err)
			}
			for _, more := range []byte{0, 1, 255} {
				if same, err := readBack(append(slices.Clone(b), more), l); !same || err != api.ErrForm {
					t.Errorf("%v, and a byte: %t, error %d", l, same, err)
				}
			}
			if n == 0 {
				continue
			}
			if _, err := readBack(b[:len(b)-1], l); err != api.ErrForm {
				t.Errorf("%v, and a byte fewer: error %d", l, err)
			}
			if _, err := readBack(b[1:], l); err != api.ErrForm {
				t.Errorf("%v, without the first byte: error %d", l, err)
			}
		}
	}
}

// TestOtherBytesAreNot: P4.2, with any bit turned, other things are read, or it fails.
func TestOtherBytesAreNot(t *testing.T) {
	seed := uint64(5)
	for range 30 {
		l := items(&seed, 4)
		b := written(t, l)
		for i := range 8 * len(b) {
			other := slices.Clone(b)
			other[i/8] ^= 1 << (i % 8)
			if same, err := readBack(other, l); same && err == api.OK {
				t.Errorf("%v: bit %d turned, and the same is read", l, i)
			}
		}
	}
}

// TestBackAndThere: bytes that are read whole, written again, are the same bytes.
func TestBackAndThere(t *testing.T) {
	seed := uint64(6)
	for n := range 60 {
		b := make([]byte, n)
		for i := range b {
			b[i] = byte(draw(&seed))
		}
		r := Read(b)
		var w Writer
		for range n / 8 {
			w.Bits(r.Bits())
		}
		if n%8 != 0 {
			if r.Done() != api.ErrForm {
				t.Errorf("%d bytes: Done is %d", n, r.Done())
			}
			continue
		}
		if r.Done() != api.OK || !bytes.Equal(told(t, &w), b) {
			t.Errorf("%v: Done is %d", b, r.Done())
		}
	}
}

// TestNil: rule 8 and the chapter: every call on a nil Writer, and on a nil Reader.
func TestNil(t *testing.T) {
	var w *Writer
	for i, got := range []*Writer{w.Num(), w.Num(1), w.Num(1, 2), w.Num(-1), w.Num(end + 1), w.Num(1).Num(2).Bits(3), w.Bits(0), w.Bits(math.MaxUint64)} {
		if got != nil {
			t.Errorf("call %d on a nil Writer told one", i)
		}
	}
	refused(t, "a nil Writer", w)
	var r *Reader
	if err := r.Done(); err != api.ErrArg {
		t.Errorf("Done of a nil Reader: %d", err)
	}
	if x, y := r.Num(), r.Bits(); x != 0 || y != 0 {
		t.Errorf("a nil Reader tells %d, %d", x, y)
	}
	for _, most := range ints() {
		if x := r.Upto(most); x != 0 {
			t.Errorf("a nil Reader tells %d up to %d", x, most)
		}
	}
	if err := r.Done(); err != api.ErrArg {
		t.Errorf("Done of a nil Reader, read from: %d", err)
	}
}

// TestZeroReader: one that nobody gave has no bytes.
func TestZeroReader(t *testing.T) {
	var r Reader
	if err := r.Done(); err != api.OK {
		t.Errorf("Done of a zero Reader: %d", err)
	}
	r.Num()
	failed(t, "a zero Reader", &r)
}

// TestBytesAreReadAsTheyWere: rule 4, what is handed to Read is neither written into nor kept.
func TestBytesAreReadAsTheyWere(t *testing.T) {
	whole := plainAll(1, 2, 3, 4)
	was := slices.Clone(whole)
	r := Read(whole[:24])
	r.Num()
	if !bytes.Equal(whole, was) {
		t.Fatalf("the bytes are %v", whole)
	}
	for i := range whole {
		whole[i] = 255
	}
	if x, y := r.Num(), r.Bits(); x != 2 || y != 3 || r.Done() != api.OK {
		t.Errorf("the bytes were kept: %d, %d, Done is %d", x, y, r.Done())
	}
	r.Num()
	for i, b := range whole {
		if b != 255 {
			t.Errorf("byte %d was written into: %d", i, b)
		}
	}
}

// TestNumbersAreLeft: rule 4, a list of numbers is neither written into nor kept.
func TestNumbersAreLeft(t *testing.T) {
	whole := []int{1, 2, 3, -4}
	var w Writer
	w.Num(whole[:3]...)
	if !slices.Equal(whole, []int{1, 2, 3, -4}) {
		t.Fatalf("the numbers are %v", whole)
	}
	whole[0], whole[1], whole[2] = -1, 7, 8
	if got := told(t, &w); !bytes.Equal(got, plainAll(1, 2, 3)) {
		t.Errorf("the numbers were kept: %v", got)
	}
}

// TestBytesToldAreNew: rule 4, what Done told stays, whatever is written later, and what is done with it changes nothing.
func TestBytesToldAreNew(t *testing.T) {
	for n := range 70 {
		var w Writer
		var want []byte
		for i := range n {
			w.Num(i)
			want = append(want, plain(uint64(i))...)
		}
		first, second := told(t, &w), told(t, &w)
		for i := range second {
			second[i] = 255
		}
		// Also into the memory behind it, where what is written next might lie.
		second = append(second, 255, 255, 255, 255, 255, 255, 255, 255)
		w.Bits(77)
		second[len(second)-1] = 254
		if !bytes.Equal(first, want) {
			t.Errorf("of %d: what was told is %v", n, first)
		}
		if got := told(t, &w); !bytes.Equal(got, append(want, plain(77)...)) {
			t.Errorf("of %d: %v", n, got)
		}
		w.Num(-1)
		if !bytes.Equal(first, want) || second[len(second)-1] != 254 {
			t.Errorf("of %d: what was told is %v, behind a wrong number", n, first)
		}
	}
}

// TestApart: P2, two Writers, and two Readers of the same bytes, know nothing of each other.
func TestApart(t *testing.T) {
	var a, b Writer
	for i := range 20 {
		a.Num(i)
		b.Bits(^uint64(i))
	}
	b.Num(-1)
	got := told(t, &a)
	if len(got) != 160 {
		t.Fatalf("the first Writer: %v", got)
	}
	refused(t, "the second Writer", &b)
	r, s := Read(got), Read(got)
	s.Upto(-1)
	for i := range 20 {
		if x := r.Num(); x != i {
			t.Errorf("the first Reader: %d, not %d", x, i)
		}
	}
	if r.Done() != api.OK {
		t.Errorf("the first Reader: Done is %d", r.Done())
	}
	failed(t, "the second Reader", s)
}

// everyCall is what all calls tell at all kinds of arguments, in drawn orders.
func everyCall() []uint64 {
	var out []uint64
	seed := uint64(7)
	l, bits := ints(), patterns()
	for i := range 400 {
		var w Writer
		for range i % 9 {
			w.Bits(bits[draw(&seed)%uint64(len(bits))])
			if draw(&seed)%4 == 0 {
				w.Num(l[draw(&seed)%uint64(len(l))])
			}
		}
		b, err := w.Done()
		out = append(out, uint64(err), uint64(len(b)))
		r := Read(append(b, make([]byte, draw(&seed)%9)...))
		for range i % 13 {
			switch draw(&seed) % 4 {
			case 0:
				out = append(out, uint64(r.Num()))
			case 1:
				out = append(out, uint64(r.Upto(l[draw(&seed)%uint64(len(l))])))
			case 2:
				out = append(out, r.Bits())
			default:
				out = append(out, uint64(r.Done()))
			}
		}
		out = append(out, uint64(r.Done()))
	}
	return out
}

// TestArgumentsAlone: P1, every call ends and none panics; P2, what it answers hangs on its arguments and the calls ahead of it alone.
func TestArgumentsAlone(t *testing.T) {
	if !slices.Equal(everyCall(), everyCall()) {
		t.Error("the same calls told something else")
	}
}
