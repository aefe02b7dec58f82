package clock

import "testing"

// two are two readings of clocks with one skew, at two true times.
type two struct {
	at    [2]int
	draws [2]int
	skew  int
	span  int
}

// checkTwo holds two readings against P8.2, by what it says.
func checkTwo(t *testing.T, w two) (passed bool) {
	t.Helper()
	skew := number(whole(w.skew))
	var read [2]int
	for i := range read {
		read[i] = Read(w.at[i], w.draws[i], w.skew)
		if far := less(whole(read[i]), number(whole(w.at[i]))); far.CmpAbs(skew) > 0 {
			t.Fatalf("Read(%d, %d, %d): %d, which is farther than the skew", w.at[i], w.draws[i], w.skew, read[i])
		}
	}
	span := number(whole(w.span))
	// Where the time and the span run over, the span is cut, and the promise does not speak of it.
	if sum(whole(read[0]), span).Cmp(whole(end)) > 0 && sum(number(whole(w.at[0])), span).Cmp(whole(end)) > 0 {
		return false
	}
	passed = Passed(read[0], read[1], w.span)
	lies := less(number(whole(w.at[1])), number(whole(w.at[0])))
	if passed && lies.Cmp(less(span, sum(skew, skew))) < 0 {
		t.Fatalf("%+v: the span has passed by the readings %d, and %s lies between", w, read, lies)
	}
	return passed
}

// P8.2, by what it says: of small numbers, and of those beside 2^62.
func TestWithinTheSkew(t *testing.T) {
	x := uint64(82)
	passed := 0
	for i := range 120000 {
		w := two{
			at:    [2]int{draw(&x, 60) - 3, draw(&x, 60) - 3},
			draws: [2]int{draw(&x, 40) - 20, draw(&x, 40) - 20},
			skew:  draw(&x, 14) - 2,
			span:  draw(&x, 40) - 2,
		}
		if i%2 == 1 {
			w.at = [2]int{end - w.at[0], end - w.at[1]}
		}
		if checkTwo(t, w) {
			passed++
		}
	}
	if passed < 10000 {
		t.Errorf("only %d of the drawn spans had passed", passed)
	}
}

// P8.2, by what it says: of any true times, draws, skews and spans.
func TestWithinTheSkewOfAny(t *testing.T) {
	x := uint64(820)
	passed := 0
	for range 60000 {
		w := two{at: [2]int{drawAny(&x), drawAny(&x)}, draws: [2]int{drawAny(&x), drawAny(&x)}, skew: drawAny(&x), span: drawAny(&x)}
		if checkTwo(t, w) {
			passed++
		}
	}
	l := edges()
	for range 60000 {
		of := func() int { return l[draw(&x, len(l))] }
		if checkTwo(t, two{at: [2]int{of(), of()}, draws: [2]int{of(), of()}, skew: of(), span: of()}) {
			passed++
		}
	}
	if passed < 10000 {
		t.Errorf("only %d of the drawn spans had passed", passed)
	}
}

// P8.2: clocks that are wrong by the whole skew, the first one behind and the second one ahead, pass a span that is twice the skew more than what lies between, and not one of one more.
func TestWithinTheSkewJust(t *testing.T) {
	x := uint64(821)
	for range 20000 {
		skew := draw(&x, 50)
		from := skew + draw(&x, 1<<30)
		lies := draw(&x, 1<<30)
		first, second := Read(from, -skew-draw(&x, 3), skew), Read(from+lies, skew+draw(&x, 3), skew)
		if !Passed(first, second, lies+2*skew) || Passed(first, second, lies+2*skew+1) {
			t.Fatalf("skew %d, from %d to %d: readings %d and %d", skew, from, from+lies, first, second)
		}
	}
}
