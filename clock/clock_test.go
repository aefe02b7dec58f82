package clock

import (
	"math"
	"testing"
)

// P8.1, O1, Read: a draw within the skew is added as it is; one beyond it counts as the skew.
func TestReadDraws(t *testing.T) {
	check(t, []row{
		{"within, ahead", Read(100, 3, 4), 103},
		{"within, behind", Read(100, -3, 4), 97},
		{"a draw of 0", Read(100, 0, 4), 100},
		{"1", Read(100, 1, 4), 101},
		{"-1", Read(100, -1, 4), 99},
		{"at the skew, ahead", Read(100, 4, 4), 104},
		{"at the skew, behind", Read(100, -4, 4), 96},
		{"one beyond, ahead", Read(100, 5, 4), 104},
		{"one beyond, behind", Read(100, -5, 4), 96},
		{"far beyond, ahead", Read(100, 1<<40, 4), 104},
		{"far beyond, behind", Read(100, -1<<40, 4), 96},
		{"the greatest int", Read(100, math.MaxInt, 4), 104},
		{"the least int", Read(100, math.MinInt, 4), 96},
		{"one more than the least int", Read(100, math.MinInt+1, 4), 96},
	})
}

// P8.1, O1, Read: the skew counts as a number.
func TestReadSkews(t *testing.T) {
	check(t, []row{
		{"a skew of 0, ahead", Read(100, 7, 0), 100},
		{"a skew of 0, behind", Read(100, -7, 0), 100},
		{"a skew of 0, no draw", Read(100, 0, 0), 100},
		{"a skew below 0, ahead", Read(100, 7, -3), 100},
		{"a skew below 0, behind", Read(100, -7, -3), 100},
		{"a skew of the least int, ahead", Read(100, 7, math.MinInt), 100},
		{"a skew of the least int, behind", Read(100, -7, math.MinInt), 100},
		{"a skew of 2^62, ahead", Read(100, 1<<40, end), 100 + 1<<40},
		{"a skew of 2^62, behind", Read(1<<41, -1<<40, end), 1 << 40},
		{"a skew above 2^62, ahead", Read(100, 7, end+1), 107},
		{"a skew above 2^62, behind", Read(100, -7, end+1), 93},
		{"a skew above 2^62, 2^62 back", Read(end, -end, end+1), 0},
		{"a skew above 2^62, the least int", Read(end, math.MinInt, end+5), 0},
		{"a skew of the greatest int, and such a draw", Read(0, math.MaxInt, math.MaxInt), end},
		{"a skew of the greatest int, the least int", Read(end, math.MinInt, math.MaxInt), 0},
		{"a skew one less than 2^62, the least int", Read(end, math.MinInt, end-1), 1},
	})
}

// P8.1, O1, Read: the true time counts as a number, and so does the reading.
func TestReadTimes(t *testing.T) {
	check(t, []row{
		{"a time below 0 counts as 0", Read(-5, 3, 4), 3},
		{"a time below 0, beyond the skew", Read(-5, 9, 4), 4},
		{"a time below 0, behind", Read(-5, -3, 4), 0},
		{"the least int as a time", Read(math.MinInt, 3, 4), 3},
		{"0, ahead", Read(0, 3, 4), 3},
		{"0, behind: a reading is not below 0", Read(0, -3, 4), 0},
		{"0, at the skew behind", Read(0, -4, 4), 0},
		{"0, no draw", Read(0, 0, 4), 0},
		{"2, where the skew reaches below 0", Read(2, -4, 4), 0},
		{"2, one back", Read(2, -1, 4), 1},
		{"2, just to 0", Read(2, -2, 4), 0},
		{"beside 2^62, just to it", Read(end-3, 3, 4), end},
		{"beside 2^62, one less", Read(end-4, 3, 4), end - 1},
		{"beside 2^62, running over", Read(end-2, 3, 4), end},
		{"beside 2^62, behind", Read(end-2, -3, 4), end - 5},
		{"2^62, ahead", Read(end, 3, 4), end},
		{"2^62, behind", Read(end, -3, 4), end - 3},
		{"above 2^62 counts as 2^62", Read(end+9, -3, 4), end - 3},
		{"above 2^62, ahead", Read(end+9, 3, 4), end},
		{"the greatest int as a time, behind", Read(math.MaxInt, -3, 4), end - 3},
		{"all at the greatest int", Read(math.MaxInt, math.MaxInt, math.MaxInt), end},
		{"all at the least int", Read(math.MinInt, math.MinInt, math.MinInt), 0},
	})
}

// P8.1, O1, Passed: is now since and the span, or later?
func TestPassed(t *testing.T) {
	checkAsked(t, []asked{
		{"one ahead", Passed(10, 14, 5), false},
		{"just there", Passed(10, 15, 5), true},
		{"one behind", Passed(10, 16, 5), true},
		{"now ahead of since", Passed(10, 3, 5), false},
		{"a span of 0, one ahead", Passed(10, 9, 0), false},
		{"a span of 0, just there", Passed(10, 10, 0), true},
		{"a span of 0, one behind", Passed(10, 11, 0), true},
		{"a span below 0, one ahead", Passed(10, 9, -5), false},
		{"a span below 0, just there", Passed(10, 10, -5), true},
		{"a span of the least int, one ahead", Passed(10, 9, math.MinInt), false},
		{"a since below 0, one ahead", Passed(-10, 4, 5), false},
		{"a since below 0, just there", Passed(-10, 5, 5), true},
		{"a now below 0", Passed(0, -1, 0), true},
		{"a now below 0, and 1 to go", Passed(0, -1, 1), false},
		{"all below 0", Passed(-1, -9, -3), true},
		{"all at the least int", Passed(math.MinInt, math.MinInt, math.MinInt), true},
		{"a since above 2^62, one ahead", Passed(end+9, end-1, 0), false},
		{"a since above 2^62, just there", Passed(end+9, end, 0), true},
		{"a span above 2^62, one ahead", Passed(0, end-1, end+9), false},
		{"a span above 2^62, just there", Passed(0, end, end+9), true},
		{"a now above 2^62 counts as 2^62", Passed(end-1, end+9, 1), true},
		{"all at the greatest int", Passed(math.MaxInt, math.MaxInt, math.MaxInt), true},
		{"just to 2^62, one ahead", Passed(end-5, end-1, 5), false},
		{"just to 2^62, there", Passed(end-5, end, 5), true},
	})
}

// P8.1, O1, Passed: where since and the span run over, then is 2^62.
func TestPassedRunsOver(t *testing.T) {
	for _, l := range [][2]int{{end - 2, 9}, {end, 1}, {1, end}, {end, end}, {end / 2, end/2 + 1}, {math.MaxInt, math.MaxInt}, {math.MaxInt, 1}} {
		checkAsked(t, []asked{
			{"at one less", Passed(l[0], end-1, l[1]), false},
			{"at 2^62", Passed(l[0], end, l[1]), true},
			{"at one more", Passed(l[0], end+1, l[1]), true},
			{"at the greatest int", Passed(l[0], math.MaxInt, l[1]), true},
		})
		check(t, []row{
			{"left at one less", Left(l[0], end-1, l[1]), 1},
			{"left at 2^62", Left(l[0], end, l[1]), 0},
			{"left at 0", Left(l[0], 0, l[1]), end},
		})
	}
}

// P8.1, O1, Left: how long it is till then; 0, if it has passed.
func TestLeft(t *testing.T) {
	check(t, []row{
		{"some way", Left(10, 11, 5), 4},
		{"at since", Left(10, 10, 5), 5},
		{"ahead of since", Left(10, 3, 5), 12},
		{"one", Left(10, 14, 5), 1},
		{"just there", Left(10, 15, 5), 0},
		{"passed by one", Left(10, 16, 5), 0},
		{"passed long ago", Left(10, 1<<40, 5), 0},
		{"a span of 0", Left(10, 9, 0), 1},
		{"a span of 0, just there", Left(10, 10, 0), 0},
		{"a span below 0", Left(10, 8, -5), 2},
		{"a since below 0", Left(-10, 2, 5), 3},
		{"a now below 0", Left(10, -7, 5), 15},
		{"all below 0", Left(-1, -2, -3), 0},
		{"all at the least int", Left(math.MinInt, math.MinInt, math.MinInt), 0},
		{"a now of the least int", Left(0, math.MinInt, 1), 1},
		{"a since above 2^62", Left(end+9, 4, 0), end - 4},
		{"a span above 2^62", Left(0, 4, end+9), end - 4},
		{"a now above 2^62", Left(10, end+9, 5), 0},
		{"a now above 2^62, and then at it", Left(end+1, end+9, 5), 0},
		{"all at the greatest int", Left(math.MaxInt, math.MaxInt, math.MaxInt), 0},
		{"all that there is", Left(end, 0, 0), end},
		{"a now of one less than 2^62", Left(end, end-1, 0), 1},
	})
}

// P8.1, O1: Passed just where Left is 0, and then till there it is what Left tells.
func TestPassedWhereNoneIsLeft(t *testing.T) {
	x := uint64(8)
	for range 20000 {
		since, now, span := draw(&x, 30)-3, draw(&x, 50)-3, draw(&x, 20)-3
		left := Left(since, now, span)
		if Passed(since, now, span) != (left == 0) {
			t.Fatalf("Passed(%d, %d, %d) with %d left", since, now, span, left)
		}
		if left > 0 && (Passed(since, max(now, 0)+left-1, span) || !Passed(since, max(now, 0)+left, span)) {
			t.Fatalf("Left(%d, %d, %d): %d, but it passes elsewhere", since, now, span, left)
		}
	}
}

// P8.1, and P1: all three calls at all edges, in each place, and at drawn ints, against the plain reckoning.
func TestPlain(t *testing.T) {
	for _, a := range edges() {
		for _, b := range edges() {
			for _, c := range edges() {
				checkPlain(t, a, b, c)
			}
		}
	}
	x := uint64(81)
	for range 30000 {
		checkPlain(t, drawAny(&x), drawAny(&x), drawAny(&x))
		checkPlain(t, draw(&x, 40)-5, draw(&x, 60)-25, draw(&x, 20)-4)
		checkPlain(t, end+5-draw(&x, 40), draw(&x, 60)-25, draw(&x, 20)-4)
		checkPlain(t, end+5-draw(&x, 40), end+5-draw(&x, 40), draw(&x, 40)-4)
	}
}

// P2: the same arguments tell the same, whatever was asked between.
func TestArgumentsAlone(t *testing.T) {
	ask := func(a, b, c int) [3]int {
		passed := 0
		if Passed(a, b, c) {
			passed = 1
		}
		return [3]int{Read(a, b, c), passed, Left(a, b, c)}
	}
	first := map[[3]int][3]int{}
	for _, a := range edges() {
		for _, b := range edges() {
			for _, c := range edges() {
				first[[3]int{a, b, c}] = ask(a, b, c)
			}
		}
	}
	for l, want := range first {
		if got := ask(l[0], l[1], l[2]); got != want {
			t.Errorf("at %d: %d, and %d before", l, got, want)
		}
	}
}
