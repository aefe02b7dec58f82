package node

import (
	"math"
	"slices"
	"testing"

	"annona/api"
	"annona/disk"
	"annona/lease"
	"annona/queue"
	"annona/token"
	"annona/vault"
)

// By the document's words: how great a number, a generation or a hop, and a time may be, and how many bytes a record has.
const (
	end     = 1 << 62
	most    = 1 << 40
	span    = 1 << 31
	bytesOf = 32
	roomy   = 1 << 16
)

// policy is so many times a key's policy, beside which its name stands.
const policy = 65536

// Of the nodes that are written out: which one of three it is, when it is made, how long it takes till a node is silent, till a token is lost, and the quarantine.
const (
	here       = 1
	start      = 100
	hear       = 8
	loss       = 20
	quarantine = 13
)

// theConf is a configuration of three nodes, with rates of two policies: B is 9 and 100.
func theConf() api.Conf {
	return api.Conf{
		N: 3, Skew: 1, TTL: 3, Valid: 6, Loss: loss, Hear: hear, Keys: 4, Queue: 4,
		Rates: []api.Rate{{R: 2, B: 9}, {R: 1, B: 100}},
	}
}

// sized is it for a ring of n.
func sized(n int) api.Conf {
	c := theConf()
	c.N = n
	return c
}

// diskOf is a disk with the records of these states, all safe.
func diskOf(t *testing.T, room int, l ...vault.State) *disk.Disk {
	t.Helper()
	return bytesOn(t, room, fileOf(l...))
}

// bytesOn is a disk with these bytes, all safe.
func bytesOn(t *testing.T, room int, b []byte) *disk.Disk {
	t.Helper()
	d, err := disk.New(room)
	if err != api.OK {
		t.Fatalf("disk.New(%d): %d", room, err)
	}
	if err := d.Replace(b); err != api.OK {
		t.Fatalf("Replace: %d", err)
	}
	return d
}

// fileOf are the bytes of states: of each four numbers, eight bytes each, the highest first.
func fileOf(l ...vault.State) []byte {
	var out []byte
	for _, s := range l {
		for _, x := range []int{s.Promised, s.Gen, s.Hop, s.Round} {
			for i := 7; i >= 0; i-- {
				out = append(out, byte(x>>(8*i)))
			}
		}
	}
	return out
}

// made is a node that may be.
func made(t *testing.T, c api.Conf, id int, d *disk.Disk, now int) *Node {
	t.Helper()
	n, err := New(c, id, d, now)
	if n == nil || err != api.OK {
		t.Fatalf("New(%+v, %d, disk, %d): %v, error %d", c, id, now, n, err)
	}
	return n
}

// theNode is node 1 of three, made at 100 on a disk of its own.
func theNode(t *testing.T) *Node {
	t.Helper()
	return made(t, theConf(), here, diskOf(t, roomy), start)
}

// onDisk is it on a disk with these records.
func onDisk(t *testing.T, l ...vault.State) (*Node, *disk.Disk) {
	t.Helper()
	d := diskOf(t, roomy, l...)
	return made(t, theConf(), here, d, start), d
}

// said is what a call tells.
type said struct {
	frames  []api.Frame
	answers []api.Answer
	err     api.Errno
}

// sends is a call that sends, and answers nobody.
func sends(l ...api.Frame) said {
	return said{frames: l}
}

// halts is one that halts, with these answers.
func halts(l ...api.Answer) said {
	return said{answers: l, err: api.ErrHalt}
}

// fails is one that tells an error alone.
func fails(err api.Errno) said {
	return said{err: err}
}

func sameSaid(a, b said) bool {
	return slices.EqualFunc(a.frames, b.frames, sameFrame) && slices.Equal(a.answers, b.answers) && a.err == b.err
}

func sameRow(a, b api.Row) bool {
	return a.Key == b.Key && a.Avail == b.Avail && a.Mark == b.Mark && slices.Equal(a.Out, b.Out)
}

func sameToken(a, b api.Token) bool {
	return a.Gen == b.Gen && a.Hop == b.Hop && slices.Equal(a.Stamps, b.Stamps) &&
		a.Table.Start == b.Table.Start && slices.EqualFunc(a.Table.Rows, b.Table.Rows, sameRow)
}

func sameFrame(a, b api.Frame) bool {
	return a.Kind == b.Kind && a.From == b.From && a.To == b.To && a.Gen == b.Gen && a.Hop == b.Hop && a.Bits == b.Bits &&
		sameToken(a.Token, b.Token)
}

// copied is a token with lists of its own.
func copied(t api.Token) api.Token {
	t.Stamps = slices.Clone(t.Stamps)
	t.Table.Rows = slices.Clone(t.Table.Rows)
	for i, r := range t.Table.Rows {
		t.Table.Rows[i].Out = slices.Clone(r.Out)
	}
	return t
}

// tokenOf is a token of three nodes without rows, which nobody has stamped.
func tokenOf(gen, hop int) api.Token {
	return api.Token{Gen: gen, Hop: hop, Stamps: []int{-1, -1, -1}, Table: api.Table{Start: 90}}
}

// stamped is a token with another stamp of a node.
func stamped(t api.Token, node, now int) api.Token {
	t = copied(t)
	t.Stamps[node] = now
	return t
}

// with is a token with these rows.
func with(t api.Token, rows ...api.Row) api.Token {
	t.Table.Rows = rows
	return t
}

// rowOf is a row of these.
func rowOf(key, avail, mark int, out ...api.Lease) api.Row {
	return api.Row{Key: key, Avail: avail, Mark: mark, Out: out}
}

// passOf, ackOf, electOf and beatOf are frames of each kind.
func passOf(from, to int, t api.Token) api.Frame {
	return api.Frame{Kind: api.Pass, From: from, To: to, Token: t}
}

func ackOf(from, to, gen, hop int) api.Frame {
	return api.Frame{Kind: api.Ack, From: from, To: to, Gen: gen, Hop: hop}
}

func electOf(from, to, gen int, bits uint64) api.Frame {
	return api.Frame{Kind: api.Elect, From: from, To: to, Gen: gen, Bits: bits}
}

func beatOf(from, to int) api.Frame {
	return api.Frame{Kind: api.Beat, From: from, To: to}
}

// beats are those of node 1 of three, and what comes behind them.
func beats(l ...api.Frame) []api.Frame {
	return append([]api.Frame{beatOf(here, 0), beatOf(here, 2)}, l...)
}

// answers are those of who is granted something, who waited too long, and who waited when it ended.
func granted(id, gen int) api.Answer {
	return api.Answer{ID: id, Gen: gen, Reason: api.Granted}
}

func expired(id int) api.Answer {
	return api.Answer{ID: id, Reason: api.Expired}
}

func restarted(id int) api.Answer {
	return api.Answer{ID: id, Reason: api.Restarted}
}

// receives holds what comes of a frame, which must stay.
func receives(t *testing.T, n *Node, f api.Frame, now int, want said) {
	t.Helper()
	was := f
	was.Token = copied(f.Token)
	var got said
	got.frames, got.answers, got.err = n.Receive(f, now)
	if !sameSaid(got, want) {
		t.Errorf("Receive(%+v, %d):\n%+v, not\n%+v", f, now, got, want)
	}
	if !sameFrame(f, was) {
		t.Errorf("Receive(%+v, %d) left %+v", was, now, f)
	}
}

// steps holds what comes of a step.
func steps(t *testing.T, n *Node, now int, want said) {
	t.Helper()
	var got said
	got.frames, got.answers, got.err = n.Step(now)
	if !sameSaid(got, want) {
		t.Errorf("Step(%d):\n%+v, not\n%+v", now, got, want)
	}
}

// asks holds what a request is answered.
func asks(t *testing.T, n *Node, r api.Request, now int, want said) {
	t.Helper()
	var got said
	got.answers, got.err = n.Ask(r, now)
	if !sameSaid(got, want) {
		t.Errorf("Ask(%+v, %d): %+v, not %+v", r, now, got, want)
	}
}

// request is one that waits for 50.
func request(id, key, cost int) api.Request {
	return api.Request{ID: id, Key: key, Cost: cost, Wait: 50}
}

// waits lets a request wait.
func waits(t *testing.T, n *Node, id, key, cost, now int) {
	t.Helper()
	asks(t, n, request(id, key, cost), now, said{})
}

// alive lets nodes be heard.
func alive(t *testing.T, n *Node, now int, nodes ...int) {
	t.Helper()
	for _, i := range nodes {
		receives(t, n, beatOf(i, n.id), now, said{})
	}
}

// given gives a node of three a token that nobody has stamped, from node 0.
func given(t *testing.T, n *Node, gen, hop, now int) {
	t.Helper()
	receives(t, n, passOf(0, n.id, tokenOf(gen, hop)), now, sends(ackOf(n.id, 0, gen, hop)))
}

// state is what a vault has.
func state(promised, gen, hop, round int) vault.State {
	return vault.State{Promised: promised, Gen: gen, Hop: hop, Round: round}
}

// looks are all that a node tells of itself.
type looks struct {
	token                     api.Token
	has                       bool
	state                     vault.State
	won                       int
	halted                    bool
	promised, round, standing int
	items                     []queue.Item
	leases                    []lease.Lease
}

// looksOf are they now.
func looksOf(n *Node) looks {
	l := looks{state: n.State(), won: n.Won(), halted: n.Halted(), promised: n.Promised(), round: n.Round(), standing: n.Standing()}
	l.token, l.has = n.Token()
	l.items, l.leases = n.Edge().Waiting(), n.Edge().Leases()
	return l
}

func sameLooks(a, b looks) bool {
	return sameToken(a.token, b.token) && a.has == b.has && a.state == b.state && a.won == b.won && a.halted == b.halted &&
		a.promised == b.promised && a.round == b.round && a.standing == b.standing &&
		slices.Equal(a.items, b.items) && slices.Equal(a.leases, b.leases)
}

// hasToken holds which token a node has; asked twice, since asking must change nothing.
func hasToken(t *testing.T, n *Node, want api.Token) {
	t.Helper()
	for range 2 {
		if got, ok := n.Token(); !ok || !sameToken(got, want) {
			t.Errorf("the token is %v, %t, not %v", got, ok, want)
		}
	}
}

// hasNone holds that it has none.
func hasNone(t *testing.T, n *Node) {
	t.Helper()
	for range 2 {
		if got, ok := n.Token(); ok || !sameToken(got, api.Token{}) {
			t.Errorf("the token is %v, %t, not none", got, ok)
		}
	}
}

// hasState holds what its vault has, and what the election promised, and its round.
func hasState(t *testing.T, n *Node, want vault.State) {
	t.Helper()
	for range 2 {
		if got := n.State(); got != want {
			t.Errorf("the state is %v, not %v", got, want)
		}
	}
	if n.Promised() != want.Promised || n.Round() != want.Round {
		t.Errorf("promised is %d, the round %d, not %v", n.Promised(), n.Round(), want)
	}
}

// hasWon holds which ballot is won.
func hasWon(t *testing.T, n *Node, want int) {
	t.Helper()
	for range 2 {
		if got := n.Won(); got != want {
			t.Errorf("%d is won, not %d", got, want)
		}
	}
}

// isOn holds which records stand on a disk, all safe.
func isOn(t *testing.T, d *disk.Disk, want ...vault.State) {
	t.Helper()
	if !slices.Equal(d.File(), fileOf(want...)) || d.Safe() != bytesOf*len(want) {
		t.Errorf("on the disk are %v, %d safe, not those of %v", d.File(), d.Safe(), want)
	}
}

// isOver holds that a node halted: it does nothing any more, whatever comes.
func isOver(t *testing.T, n *Node) {
	t.Helper()
	if !n.Halted() {
		t.Error("it goes on")
	}
	hasNone(t, n)
	was := looksOf(n)
	if len(was.items) > 0 || len(was.leases) > 0 {
		t.Errorf("%v wait, %v are left", was.items, was.leases)
	}
	for _, now := range edges() {
		steps(t, n, now, halts())
		asks(t, n, request(1, 5, 1), now, halts())
		receives(t, n, beatOf(0, n.id), now, halts())
		receives(t, n, passOf(0, n.id, tokenOf(most, most)), now, halts())
		receives(t, n, electOf(0, n.id, most, 7), now, halts())
		receives(t, n, api.Frame{Kind: -1, From: -1, To: now}, now, halts())
	}
	n.Break()
	if l := n.Crash(); len(l) > 0 {
		t.Errorf("Crash again: %v", l)
	}
	if got := looksOf(n); !sameLooks(got, was) {
		t.Errorf("it is %v, and was %v", got, was)
	}
}

// edges are ints at and beside the bounds that the chapters name, and at the ends.
func edges() []int {
	return []int{
		math.MinInt, math.MinInt + 1, -end, -span, -2, -1, 0, 1, 2, 3, 62, 63, 64, 65,
		span - 1, span, span + 1, most - 1, most, most + 1, end - 2, end - 1, end, end + 1, math.MaxInt - 1, math.MaxInt,
	}
}

// noReadings are ints that are none of a step or a frame.
func noReadings() []int {
	return []int{-1, -2, -end, math.MinInt, end, end + 1, math.MaxInt}
}

// draw is a fixed rule's next, below n: the same ones each time.
func draw(x *uint64, n int) int {
	*x = *x*6364136223846793005 + 1442695040888963407
	return int(*x >> 33 % uint64(n))
}

// newer is chapter 10's word on places.
func newer(a, b token.Place) bool {
	return a.Gen > b.Gen || a.Gen == b.Gen && a.Hop > b.Hop
}
