package token

import (
	"math"
	"testing"

	"annona/api"
)

// stampsOf are n stamps, all -1, but node's.
func stampsOf(n, node, now int) []int {
	var l []int
	for i := range n {
		if i == node {
			l = append(l, now)
			continue
		}
		l = append(l, -1)
	}
	return l
}

// K1: a fresh token has hop 0, no stamp but one, and mints since now.
func TestFresh(t *testing.T) {
	for _, c := range []struct{ gen, n, node, now int }{
		{6, 4, 2, 50},
		{6, 4, 0, 50},
		{6, 4, 3, 50},
		{6, 1, 0, 50},
		{6, 2, 1, 50},
		{6, 64, 0, 50},
		{6, 64, 63, 50},
		{6, 63, 62, 50},
		{1, 4, 1, 50},
		{2, 4, 1, 50},
		{most - 1, 4, 1, 50},
		{most, 4, 1, 50},
		{6, 4, 1, 0},
		{6, 4, 1, 1},
		{6, 4, 1, end - 2},
		{6, 4, 1, end - 1},
		{most, 64, 63, end - 1},
		{1, 1, 0, 0},
	} {
		want := api.Token{Gen: c.gen, Stamps: stampsOf(c.n, c.node, c.now), Table: api.Table{Start: c.now}}
		got, e := Fresh(c.gen, c.n, c.node, c.now)
		checkTold(t, "fresh", got, e, want, api.OK)
		if len(got.Table.Rows) != 0 {
			t.Errorf("fresh, and with rows: %+v", got)
		}
	}
}

// K1 and rule 2: no token that may not be, none of a node that is not there; the zero token is told, and nothing great is made ahead.
func TestFreshNot(t *testing.T) {
	for _, c := range []struct{ gen, n, node, now int }{
		{6, 0, 0, 50},
		{6, 0, -1, 50},
		{6, -1, 0, 50},
		{6, -1, -1, 50},
		{6, -4, -2, 50},
		{6, math.MinInt, 0, 50},
		{6, 65, 0, 50},
		{6, 65, 63, 50},
		{6, 65, 64, 50},
		{6, 66, 2, 50},
		{6, span, 0, 50},
		{6, end, 5, 50},
		{6, math.MaxInt, 0, 50},
		{6, math.MaxInt, 63, 50},
		{6, math.MaxInt, math.MaxInt - 1, 50},
		{0, 4, 1, 50},
		{-1, 4, 1, 50},
		{math.MinInt, 4, 1, 50},
		{most + 1, 4, 1, 50},
		{math.MaxInt, 4, 1, 50},
		{6, 4, 1, -1},
		{6, 4, 1, -2},
		{6, 4, 1, math.MinInt},
		{6, 4, 1, end},
		{6, 4, 1, end + 1},
		{6, 4, 1, math.MaxInt},
		{6, 4, -1, 50},
		{6, 4, 4, 50},
		{6, 4, 5, 50},
		{6, 4, 63, 50},
		{6, 4, 64, 50},
		{6, 4, math.MinInt, 50},
		{6, 4, math.MaxInt, 50},
		{6, 64, 64, 50},
		{6, 64, -1, 50},
		{6, 1, 1, 50},
		{0, 0, 0, -1},
	} {
		got, e := Fresh(c.gen, c.n, c.node, c.now)
		checkTold(t, "fresh", got, e, api.Token{}, api.ErrArg)
	}
}

// K1, held against its words at all edges.
func TestFreshAtEdges(t *testing.T) {
	for _, n := range edges() {
		for _, node := range edges() {
			for _, gen := range []int{math.MinInt, -1, 0, 1, 5, most, most + 1, math.MaxInt} {
				for _, now := range []int{math.MinInt, -1, 0, 5, end - 1, end, math.MaxInt} {
					may := 1 <= n && n <= 64 && 0 <= node && node < n && 1 <= gen && gen <= most && 0 <= now && now < end
					got, e := Fresh(gen, n, node, now)
					if !may {
						checkTold(t, "fresh", got, e, api.Token{}, api.ErrArg)
						continue
					}
					checkTold(t, "fresh", got, e, api.Token{Gen: gen, Stamps: stampsOf(n, node, now), Table: api.Table{Start: now}}, api.OK)
				}
			}
		}
	}
}

// K1: the stamp of one node is new, and nothing else.
func TestStamp(t *testing.T) {
	for _, c := range []struct {
		node, now int
		want      []int
	}{
		{1, 50, []int{40, 50, 30, 35}},
		{0, 50, []int{50, -1, 30, 35}},
		{3, 50, []int{40, -1, 30, 50}},
		{0, 9, []int{9, -1, 30, 35}},
		{0, 40, []int{40, -1, 30, 35}},
		{2, 0, []int{40, -1, 0, 35}},
		{2, 1, []int{40, -1, 1, 35}},
		{2, end - 2, []int{40, -1, end - 2, 35}},
		{2, end - 1, []int{40, -1, end - 1, 35}},
	} {
		want := full()
		want.Stamps = c.want
		got, e := Stamp(full(), c.node, c.now)
		checkTold(t, "stamped", got, e, want, api.OK)
	}
	got, e := Stamp(stamped(-1), 0, 8)
	checkTold(t, "one node", got, e, stamped(8), api.OK)
	got, e = Stamp(stamped(make([]int, 64)...), 63, 8)
	want := stamped(make([]int, 64)...)
	want.Stamps[63] = 8
	checkTold(t, "the last of 64", got, e, want, api.OK)
}

// K1: without such a node, or such a time, the token is told as it is.
func TestStampNot(t *testing.T) {
	for _, c := range []struct{ node, now int }{
		{-1, 50},
		{-2, 50},
		{math.MinInt, 50},
		{4, 50},
		{5, 50},
		{63, 50},
		{math.MaxInt, 50},
		{2, -1},
		{2, -2},
		{2, math.MinInt},
		{2, end},
		{2, end + 1},
		{2, math.MaxInt},
		{4, -1},
		{-1, end},
	} {
		for _, of := range []api.Token{full(), wrong()} {
			got, e := Stamp(of, c.node, c.now)
			checkTold(t, "stamped", got, e, of, api.ErrArg)
		}
	}
	for _, node := range []int{-1, 0, 1} {
		got, e := Stamp(stamped(), node, 50)
		checkTold(t, "without stamps", got, e, stamped(), api.ErrArg)
		got, e = Stamp(api.Token{}, node, 50)
		checkTold(t, "the zero token", got, e, api.Token{}, api.ErrArg)
	}
}

// K1: a token that may not be is stamped all the same.
func TestStampWrong(t *testing.T) {
	want := wrong()
	want.Stamps = []int{-9, 6, 4, math.MinInt}
	got, e := Stamp(wrong(), 1, 6)
	checkTold(t, "one that may not be", got, e, want, api.OK)
	want.Stamps = []int{-9, end, 4, 0}
	got, e = Stamp(wrong(), 3, 0)
	checkTold(t, "one that may not be", got, e, want, api.OK)
	many := stamped(make([]int, 70)...)
	want = stamped(make([]int, 70)...)
	want.Stamps[69] = 5
	got, e = Stamp(many, 69, 5)
	checkTold(t, "more stamps than may be", got, e, want, api.OK)
	got, e = Stamp(many, 70, 5)
	checkTold(t, "more stamps than may be", got, e, many, api.ErrArg)
}

// K1, held against its words at all edges, and of drawn tokens.
func TestStampAtEdges(t *testing.T) {
	x := uint64(105)
	for _, node := range edges() {
		for _, now := range edges() {
			for range 5 {
				of := drawToken(&x)
				want, must := of, api.ErrArg
				if 0 <= node && node < len(of.Stamps) && 0 <= now && now < end {
					must = api.OK
					want.Stamps = append([]int{}, of.Stamps...)
					want.Stamps[node] = now
				}
				got, e := Stamp(of, node, now)
				checkTold(t, "stamped", got, e, want, must)
			}
		}
	}
}
