package node

import (
	"slices"
	"testing"

	"annona/api"
	"annona/disk"
	"annona/vault"
)

// keeping is an act that keeps something, at a node that is ready for it, and whom that answers ahead.
type keeping struct {
	name  string
	ready func(t *testing.T, room int) (*Node, *disk.Disk)
	act   func(n *Node) said
	want  vault.State
	ahead []api.Answer
	won   int
}

// called is what a call of frames told.
func called(f []api.Frame, a []api.Answer, err api.Errno) said {
	return said{f, a, err}
}

// first is node 1 of three on a disk with that room for records beyond its first one.
func first(t *testing.T, room int) (*Node, *disk.Disk) {
	t.Helper()
	d := diskOf(t, room+bytesOf, state(3, 2, 2, 0))
	return made(t, theConf(), here, d, start), d
}

// keepings are all acts that keep.
func keepings() []keeping {
	return []keeping{
		{
			name: "a pass", ready: first, want: state(5, 5, 1, 0),
			act: func(n *Node) said { return called(n.Receive(passOf(0, here, tokenOf(5, 1)), start+5)) },
		},
		{
			name: "a ballot", ready: first, want: state(5, 2, 2, 0),
			act: func(n *Node) said { return called(n.Receive(electOf(0, here, 5, 1), start+5)) },
		},
		{
			name: "a step that stands", ready: first, want: state(4, 2, 2, 1), ahead: []api.Answer{expired(9)},
			act: func(n *Node) said { return called(n.Step(start + loss)) },
		},
		{
			name: "a token of its own", want: state(5, 5, 2, 0), ahead: []api.Answer{expired(9)},
			ready: func(t *testing.T, room int) (*Node, *disk.Disk) {
				n, d := first(t, room+bytesOf)
				given(t, n, 5, 1, start+1)
				return n, d
			},
			act: func(n *Node) said { return called(n.Step(start + loss)) },
		},
		{
			name: "a fresh token", want: state(4, 4, 0, 1), ahead: []api.Answer{expired(9)},
			ready: func(t *testing.T, room int) (*Node, *disk.Disk) {
				n, d := first(t, room+bytesOf)
				steps(t, n, start+loss, sends(beats()...))
				receives(t, n, electOf(0, here, 4, 7), start, said{})
				hasWon(t, n, 4)
				return n, d
			},
			act: func(n *Node) said { return called(n.Step(start + loss)) },
		},
		{
			name: "a ballot that is greater than the one won", want: state(5, 2, 2, 1),
			ready: func(t *testing.T, room int) (*Node, *disk.Disk) {
				n, d := first(t, room+bytesOf)
				steps(t, n, start+loss, sends(beats()...))
				receives(t, n, electOf(0, here, 4, 7), start, said{})
				return n, d
			},
			act: func(n *Node) said { return called(n.Receive(electOf(0, here, 5, 7), start)) },
		},
		{
			name: "a pass of the ballot's generation", want: state(4, 4, 1, 1), won: 4,
			ready: func(t *testing.T, room int) (*Node, *disk.Disk) {
				n, d := first(t, room+bytesOf)
				steps(t, n, start+loss, sends(beats()...))
				receives(t, n, electOf(0, here, 4, 7), start, said{})
				return n, d
			},
			act: func(n *Node) said { return called(n.Receive(passOf(0, here, tokenOf(4, 1)), start)) },
		},
		{
			name: "a ring of one that would win", want: state(4, 2, 2, 4), ahead: []api.Answer{expired(9)},
			ready: func(t *testing.T, room int) (*Node, *disk.Disk) {
				d := diskOf(t, room+bytesOf, state(3, 2, 2, 0))
				return made(t, sized(1), 0, d, start), d
			},
			act: func(n *Node) said { return called(n.Step(start + loss)) },
		},
	}
}

// crowd lets some wait, one of them till 110.
func crowd(t *testing.T, n *Node) {
	t.Helper()
	waits(t, n, 7, 5, 3, start)
	asks(t, n, api.Request{ID: 9, Key: 5, Cost: 1, Wait: 10}, start, said{})
	waits(t, n, -1, policy, 1, start)
}

// rest are those of them who wait still, behind those who were answered ahead.
func (k keeping) rest() []api.Answer {
	if len(k.ahead) > 0 {
		return append(slices.Clone(k.ahead), restarted(7), restarted(-1))
	}
	return []api.Answer{restarted(7), restarted(9), restarted(-1)}
}

// TestKept: each such act, of a node that isn't told to break, keeps its state, safe, and goes on.
func TestKept(t *testing.T) {
	for _, k := range keepings() {
		n, d := k.ready(t, bytesOf)
		file := d.File()
		if got := k.act(n); got.err != api.OK || n.Halted() {
			t.Errorf("%s: %+v", k.name, got)
		}
		hasState(t, n, k.want)
		if !slices.Equal(d.File(), append(file, fileOf(k.want)...)) || d.Safe() != len(d.File()) {
			t.Errorf("%s: %v stand on the disk, %d safe", k.name, d.File(), d.Safe())
		}
	}
}

// TestBroken: of a node that is told to break the next keeping puts the record, but doesn't sync it, and halts: no frames, but who waits is answered, behind those of the step's first point.
func TestBroken(t *testing.T) {
	for _, k := range keepings() {
		for _, room := range []int{bytesOf, roomy} {
			n, d := k.ready(t, room)
			crowd(t, n)
			file := d.File()
			n.Break()
			if room == roomy {
				n.Break()
			}
			if n.Halted() {
				t.Errorf("%s: it halted ahead", k.name)
			}
			if got := k.act(n); !sameSaid(got, halts(k.rest()...)) {
				t.Errorf("%s: %+v", k.name, got)
			}
			if !slices.Equal(d.File(), append(file, fileOf(k.want)...)) || d.Safe() != len(file) {
				t.Errorf("%s: %v stand on the disk, %d safe", k.name, d.File(), d.Safe())
			}
			hasState(t, n, k.want)
			hasWon(t, n, k.won)
			isOver(t, n)
		}
	}
}

// TestFull: of a node whose disk has no room for a record more nothing is put, and it halts likewise; with just so much room it goes on.
func TestFull(t *testing.T) {
	for _, k := range keepings() {
		for _, room := range []int{0, 1, bytesOf - 1} {
			n, d := k.ready(t, room)
			crowd(t, n)
			file, was := d.File(), n.State()
			if got := k.act(n); !sameSaid(got, halts(k.rest()...)) {
				t.Errorf("%s: %+v", k.name, got)
			}
			if !slices.Equal(d.File(), file) || d.Safe() != len(file) || n.State() != was {
				t.Errorf("%s: %v stand on the disk, %d safe, the state is %v", k.name, d.File(), d.Safe(), n.State())
			}
			hasWon(t, n, k.won)
			isOver(t, n)
		}
	}
}

// TestBreakWaits: a break comes at the next keeping, not at anything else.
func TestBreakWaits(t *testing.T) {
	n, d := onDisk(t, state(3, 2, 2, 0))
	given(t, n, 5, 1, start)
	crowd(t, n)
	n.Break()
	f := passOf(here, 2, stamped(tokenOf(5, 2), here, start))
	steps(t, n, start, sends(beats(f)...))
	steps(t, n, start+10, said{frames: beats(f), answers: []api.Answer{expired(9)}})
	alive(t, n, start+10, 0, 2)
	receives(t, n, ackOf(2, here, 5, 2), start+10, said{})
	receives(t, n, passOf(0, here, tokenOf(5, 1)), start+10, sends(ackOf(here, 0, 5, 1)))
	receives(t, n, passOf(0, here, tokenOf(4, 9)), start+10, said{})
	receives(t, n, electOf(0, here, 5, 7), start+10, said{})
	receives(t, n, electOf(3, here, 9, 7), start+10, fails(api.ErrArg))
	steps(t, n, -1, fails(api.ErrArg))
	waits(t, n, 8, 5, 1, start)
	isOn(t, d, state(3, 2, 2, 0), state(5, 5, 1, 0))
	receives(t, n, electOf(0, here, 6, 1), start+10, halts(restarted(7), restarted(-1), restarted(8)))
	isOver(t, n)
}

// TestBreakWhileStanding: winning isn't kept, so that it doesn't break.
func TestBreakWhileStanding(t *testing.T) {
	n, d := standing(t)
	n.Break()
	receives(t, n, electOf(2, here, 4, 6), start+21, said{})
	hasWon(t, n, 4)
	isOn(t, d, state(4, 0, 0, 1))
	steps(t, n, start+21+quarantine, halts())
	hasWon(t, n, 0)
	isOver(t, n)
}

// TestHaltBehindItsVisit: who is answered by the visit at a step's second point is told, behind those of the first point, and ahead of those whom its end answers.
func TestHaltBehindItsVisit(t *testing.T) {
	n, _ := winner(t, start+loss)
	at := start + loss + quarantine
	given(t, n, 4, 1, start)
	receives(t, n, passOf(here, here, stamped(tokenOf(4, 2), 2, at)), start, said{frames: []api.Frame{ackOf(here, here, 4, 2)}})
	asks(t, n, api.Request{ID: 1, Key: 5, Cost: 9, Wait: at}, start, said{})
	asks(t, n, api.Request{ID: 2, Key: 5, Cost: 1, Wait: 3}, start, said{})
	asks(t, n, api.Request{ID: 3, Key: 5, Cost: 5, Class: 2, Wait: at}, start, said{})
	asks(t, n, api.Request{ID: 4, Key: policy, Cost: 3, Wait: at}, start, said{})
	hasWon(t, n, 4)
	steps(t, n, at, halts(expired(2), granted(1, 4), granted(4, 4), restarted(3)))
	hasWon(t, n, 0)
	isOver(t, n)
}

// TestCrash: it halts: who waits is answered, as they came, and it has no token; nothing is kept by that.
func TestCrash(t *testing.T) {
	n, d := onDisk(t, state(3, 2, 2, 0))
	given(t, n, 5, 1, start)
	crowd(t, n)
	if got := n.Crash(); !slices.Equal(got, []api.Answer{restarted(7), restarted(9), restarted(-1)}) {
		t.Errorf("Crash: %v", got)
	}
	isOver(t, n)
	hasState(t, n, state(5, 5, 1, 0))
	isOn(t, d, state(3, 2, 2, 0), state(5, 5, 1, 0))
	n = theNode(t)
	if got := n.Crash(); len(got) > 0 {
		t.Errorf("Crash: %v", got)
	}
	isOver(t, n)
}

// TestCrashOfALease: what was granted and not spent is gone with it.
func TestCrashOfALease(t *testing.T) {
	n := leased(t, 4)
	waits(t, n, 2, 5, 9, start)
	if got := n.Crash(); !slices.Equal(got, []api.Answer{restarted(2)}) {
		t.Errorf("Crash: %v", got)
	}
	isOver(t, n)
}

// TestCrashAgain: a second one tells nothing, whoever was let in past the node meanwhile.
func TestCrashAgain(t *testing.T) {
	n := theNode(t)
	n.Crash()
	n.Edge().Ask(request(1, 5, 1), start)
	if got := n.Crash(); len(got) > 0 {
		t.Errorf("Crash: %v", got)
	}
}
