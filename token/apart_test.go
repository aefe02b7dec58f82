package token

import (
	"slices"
	"testing"

	"annona/api"
)

// spread is a token whose lists have room behind their lengths, in which lie stamps, rows and leases that would count if they were looked at.
func spread(t api.Token) api.Token {
	t.Stamps = slices.Concat(t.Stamps, []int{70, 71, 72, 73, 74})[:len(t.Stamps)]
	rows := make([]api.Row, 0, len(t.Table.Rows)+2)
	for _, r := range t.Table.Rows {
		r.Out = slices.Concat(r.Out, []api.Lease{to(2, 5), to(63, 9)})[:len(r.Out)]
		rows = append(rows, r)
	}
	rows = append(rows, rowOf(5, 8, to(2, 3)), rowOf(65537, 4))
	t.Table.Rows = rows[:len(t.Table.Rows)]
	return t
}

// memory is all that a token's lists have, as far as their memory goes, as a copy.
func memory(t api.Token) api.Token {
	t.Stamps = slices.Clone(t.Stamps[:cap(t.Stamps)])
	t.Table.Rows = slices.Clone(t.Table.Rows[:cap(t.Table.Rows)])
	for i, r := range t.Table.Rows {
		t.Table.Rows[i].Out = slices.Clone(r.Out[:cap(r.Out)])
	}
	return t
}

// spoil writes into all that a token has, also into the room behind its lengths, and puts more behind each list.
func spoil(t api.Token) {
	rows := t.Table.Rows[:cap(t.Table.Rows)]
	for i := range rows {
		out := rows[i].Out[:cap(rows[i].Out)]
		for j := range out {
			out[j] = to(-77, -77)
		}
		_ = append(rows[i].Out, to(-78, -78))
		rows[i].Key, rows[i].Avail, rows[i].Mark = -77, -77, -77
	}
	_ = append(t.Table.Rows, rowOf(-78, -78))
	stamps := t.Stamps[:cap(t.Stamps)]
	for i := range stamps {
		stamps[i] = -77
	}
	_ = append(t.Stamps, -78)
}

// calls are all that tell a token of a token, with an error and without one.
func calls() map[string]func(api.Token) api.Token {
	stamp := func(node, now int) func(api.Token) api.Token {
		return func(t api.Token) api.Token {
			got, _ := Stamp(t, node, now)
			return got
		}
	}
	return map[string]func(api.Token) api.Token{
		"stamped":         stamp(1, 60),
		"the same stamp":  stamp(0, 40),
		"no such node":    stamp(4, 60),
		"no such stamp":   stamp(1, -1),
		"none of either":  stamp(-1, end),
		"passed on":       func(t api.Token) api.Token { got, _ := Pass(t); return got },
		"passed too far":  func(t api.Token) api.Token { t.Hop = most; got, _ := Pass(t); return got },
		"twice passed on": func(t api.Token) api.Token { a, _ := Pass(t); b, _ := Pass(a); spoil(a); return b },
	}
}

// K1: what is told shares nothing with what was handed in, whichever of them is written into, also with an error.
func TestSharesNothing(t *testing.T) {
	for name, call := range calls() {
		for _, kind := range []func() api.Token{full, wrong, func() api.Token { return spread(full()) }, func() api.Token { return spread(wrong()) }} {
			of := kind()
			was := memory(of)
			got := call(of)
			must := memory(got)
			checkToken(t, name+": what was handed in, told", memory(of), was)
			spoil(got)
			checkToken(t, name+": what was handed in, the other one written into", memory(of), was)

			got = call(of)
			spoil(of)
			checkToken(t, name+": what is told, the other one written into", memory(got), must)
		}
	}
}

// Rule 4: no two answers share any, and no two lists of one.
func TestAnswersApart(t *testing.T) {
	of := spread(full())
	for name, call := range calls() {
		a, b := call(of), call(of)
		must := memory(b)
		spoil(a)
		checkToken(t, name, memory(b), must)
		got := call(of)
		got.Table.Rows[0].Out = append(got.Table.Rows[0].Out, to(9, 9))
		got.Stamps = append(got.Stamps, 9)
		if !slices.Equal(got.Table.Rows[2].Out, []api.Lease{to(2, 1)}) || len(got.Table.Rows[1].Out) != 0 {
			t.Errorf("%s: leases share memory: %+v", name, got)
		}
	}
	a, _ := Fresh(3, 4, 1, 20)
	b, _ := Fresh(3, 4, 1, 20)
	spoil(a)
	checkToken(t, "fresh", b, api.Token{Gen: 3, Stamps: []int{-1, 20, -1, -1}, Table: api.Table{Start: 20}})
}

// Rule 4: what lies behind a list's length is not read.
func TestBehindLength(t *testing.T) {
	x := uint64(111)
	for range 4000 {
		of := drawToken(&x)
		room := spread(of)
		now, span, node := drawNear(&x), drawNear(&x), draw(&x, 12)-1
		if At(of) != At(room) || Credit(of) != Credit(room) || Until(of, span) != Until(room, span) || Valid(of, now, span) != Valid(room, now, span) {
			t.Fatalf("%+v, with room behind it, is another one", of)
		}
		a, e := Stamp(of, node, now)
		b, f := Stamp(room, node, now)
		checkTold(t, "stamped", b, f, a, e)
		a, e = Pass(of)
		b, f = Pass(room)
		checkTold(t, "passed on", b, f, a, e)
	}
}

// Rule 4: what only looks at a token leaves it as it is, also the order of its stamps.
func TestLookedAt(t *testing.T) {
	x := uint64(112)
	for range 2000 {
		of := spread(drawToken(&x))
		was := memory(of)
		At(of)
		Credit(of)
		Until(of, drawNear(&x))
		Valid(of, drawNear(&x), drawNear(&x))
		checkToken(t, "looked at", memory(of), was)
	}
}

// told is all that the calls tell of some arguments.
type told struct {
	made, stamped, passed api.Token
	errors                [3]api.Errno
	newer, valid          bool
	at                    Place
	until, credit         int
}

// tell calls all of them.
func tell(of api.Token, a, b, c, d int) told {
	var l told
	l.made, l.errors[0] = Fresh(a, b, c, d)
	l.stamped, l.errors[1] = Stamp(of, c, d)
	l.passed, l.errors[2] = Pass(of)
	l.newer = Newer(Place{a, b}, Place{c, d})
	l.valid = Valid(of, a, d)
	l.at, l.until, l.credit = At(of), Until(of, d), Credit(of)
	return l
}

// P1, P2: every call ends, and what it tells hangs on its arguments alone, whatever was called ahead.
func TestArgumentsAlone(t *testing.T) {
	x := uint64(113)
	for range 4000 {
		of := drawToken(&x)
		a, b, c, d := drawNear(&x), drawNear(&x), drawNear(&x), drawNear(&x)
		if draw(&x, 2) == 0 {
			a, b, c = 1+draw(&x, 9), 1+draw(&x, 64), draw(&x, 64)
		}
		first := tell(of, a, b, c, d)
		tell(drawToken(&x), d, c, b, a)
		again := tell(of, a, b, c, d)
		checkToken(t, "fresh", again.made, first.made)
		checkToken(t, "stamped", again.stamped, first.stamped)
		checkToken(t, "passed on", again.passed, first.passed)
		if first.errors != again.errors || first.newer != again.newer || first.valid != again.valid || first.at != again.at || first.until != again.until || first.credit != again.credit {
			t.Fatalf("%+v: %+v, and then %+v", of, first, again)
		}
	}
}
