package relay

import (
	"testing"

	"annona/api"
	"annona/token"
)

// from tells whether x is from lo to hi.
func from(x, lo, hi int) bool {
	return x >= lo && x <= hi
}

// tableMayBe is chapter 5's words on a table.
func tableMayBe(t api.Table) bool {
	ok := from(t.Start, 0, end) && len(t.Rows) <= 16
	for i, r := range t.Rows {
		ok = ok && from(r.Key, 0, topKey) && from(r.Avail, 0, span) && from(r.Mark, t.Start, end) && len(r.Out) <= 64
		ok = ok && (i == 0 || t.Rows[i-1].Key < r.Key)
		for j, x := range r.Out {
			ok = ok && from(x.Node, 0, 63) && from(x.Amount, 1, span) && (j == 0 || r.Out[j-1].Node < x.Node)
		}
	}
	return ok
}

// passMayBe is chapter 5's words on a pass.
func passMayBe(f api.Frame) bool {
	t := f.Token
	ok := f.Kind == 0 && from(f.From, 0, 63) && from(f.To, 0, 63) && f.Gen == 0 && f.Hop == 0 && f.Bits == 0
	ok = ok && from(t.Gen, 1, most) && from(t.Hop, 0, most) && from(len(t.Stamps), 1, 64) && tableMayBe(t.Table)
	for _, x := range t.Stamps {
		ok = ok && from(x, -1, end-1)
	}
	return ok
}

// ackMayBe is chapter 5's words on an ack.
func ackMayBe(f api.Frame) bool {
	none := f.Token.Gen == 0 && f.Token.Hop == 0 && len(f.Token.Stamps) == 0 && f.Token.Table.Start == 0 && len(f.Token.Table.Rows) == 0
	return f.Kind == 1 && from(f.From, 0, 63) && from(f.To, 0, 63) && from(f.Gen, 1, most) && from(f.Hop, 0, most) && f.Bits == 0 && none
}

// plain is a relay by the chapter's words alone: all that was held, of which the last one may be gone, and all that was sent.
type plain struct {
	all  []api.Frame
	gone bool
	sent []api.Frame
}

func (p *plain) none() bool { return len(p.all) == 0 || p.gone }

func (p *plain) last() api.Frame { return p.all[len(p.all)-1] }

func (p *plain) hold(f api.Frame) api.Errno {
	if !passMayBe(f) {
		return 1
	}
	if !p.none() {
		return 5
	}
	p.all, p.gone = append(p.all, ownCopy(f)), false
	return 0
}

func (p *plain) held() (api.Frame, bool) {
	if p.none() {
		return api.Frame{}, false
	}
	p.sent = append(p.sent, p.last())
	return p.last(), true
}

func (p *plain) ack(f api.Frame) bool {
	if p.none() {
		return false
	}
	h := p.last()
	p.gone = ackMayBe(f) && f.From == h.To && f.To == h.From && f.Gen == h.Token.Gen && f.Hop == h.Token.Hop
	return p.gone
}

func (p *plain) drop(at token.Place) bool {
	if p.none() {
		return false
	}
	h := p.last().Token
	p.gone = at.Gen > h.Gen || at.Gen == h.Gen && at.Hop > h.Hop
	return p.gone
}

// how is which call an act is.
type how int

const (
	toHold how = iota
	toHeld
	toAck
	toDrop
	toSent
)

// act is a call with its arguments.
type act struct {
	how how
	f   api.Frame
	at  token.Place
}

// answer is all that a call may answer.
type answer struct {
	f   api.Frame
	ok  bool
	err api.Errno
	n   int
}

func (a act) onRelay(r *Relay) answer {
	var y answer
	switch a.how {
	case toHold:
		y.err = r.Hold(a.f)
	case toHeld:
		y.f, y.ok = r.Held()
	case toAck:
		y.ok = r.Ack(a.f)
	case toDrop:
		y.ok = r.Drop(a.at)
	case toSent:
		y.n = r.Sent()
	}
	return y
}

func (a act) onPlain(p *plain) answer {
	var y answer
	switch a.how {
	case toHold:
		y.err = p.hold(a.f)
	case toHeld:
		y.f, y.ok = p.held()
	case toAck:
		y.ok = p.ack(a.f)
	case toDrop:
		y.ok = p.drop(a.at)
	case toSent:
		y.n = len(p.sent)
	}
	return y
}

func sameAnswer(a, b answer) bool {
	return sameFrame(a.f, b.f) && a.ok == b.ok && a.err == b.err && a.n == b.n
}

// tried does an act on a relay and on a plain one, and holds them against each other.
func tried(t *testing.T, r *Relay, p *plain, a act) answer {
	t.Helper()
	got, want := a.onRelay(r), a.onPlain(p)
	if !sameAnswer(got, want) || r.Sent() != len(p.sent) {
		t.Fatalf("%+v: %+v, sent %d, not %+v, sent %d", a, got, r.Sent(), want, len(p.sent))
	}
	return got
}

// drawnPass is a pass that may be, between few nodes, at one of few places, with few differences.
func drawnPass(x *uint64) api.Frame {
	f := thePass()
	f.From, f.To = draw(x, 3), draw(x, 3)
	f.Token.Gen, f.Token.Hop = 1+draw(x, 3), draw(x, 3)
	f.Token.Stamps[draw(x, 4)] = draw(x, 50) - 1
	f.Token.Table.Rows[draw(x, 3)].Avail = draw(x, 9)
	f.Token.Table.Rows[0].Out[draw(x, 3)].Amount = 1 + draw(x, 9)
	f.Token.Table.Rows = f.Token.Table.Rows[:draw(x, 4)]
	return f
}

// turned is a frame of which something is another one, mostly such that it may not be.
func turned(x *uint64, f api.Frame) api.Frame {
	l := edges()
	n := l[draw(x, len(l))]
	switch draw(x, 9) {
	case 0:
		f.Kind = api.Kind(n)
	case 1:
		f.From = n
	case 2:
		f.To = n
	case 3:
		f.Gen = n
	case 4:
		f.Hop = n
	case 5:
		f.Bits = uint64(n)
	case 6:
		f.Token.Gen = n
	case 7:
		f.Token.Hop = n
	default:
		f.Token.Table.Start = n
	}
	return f
}

// drawnFrame is mostly a pass, or an ack, that may be.
func drawnFrame(x *uint64, want api.Kind) api.Frame {
	f := drawnPass(x)
	if draw(x, 12) == 0 {
		want = api.Pass + api.Ack - want
	}
	if want == api.Ack {
		f = ackOf(f)
	}
	if draw(x, 6) == 0 {
		f = turned(x, f)
	}
	return f
}

// drawn is an act by a fixed rule; of acks some answer a frame of which most is known.
func drawn(x *uint64, known api.Frame) act {
	switch how := how(draw(x, 5)); how {
	case toHold:
		return act{how: how, f: drawnFrame(x, api.Pass)}
	case toAck:
		f := drawnFrame(x, api.Ack)
		if draw(x, 3) == 0 {
			f = ackOf(known)
		}
		return act{how: how, f: f}
	case toDrop:
		l := edges()
		if draw(x, 8) == 0 {
			return act{how: how, at: place(l[draw(x, len(l))], l[draw(x, len(l))])}
		}
		return act{how: how, at: place(draw(x, 5), draw(x, 4))}
	default:
		return act{how: how}
	}
}

// TestBesideAPlainOne: P15.1, drawn acts on a relay and on a plain one tell the same.
func TestBesideAPlainOne(t *testing.T) {
	x := uint64(51)
	seen := map[how][2]int{}
	for range 300 {
		r, p := New(), &plain{}
		known := thePass()
		for range 200 {
			a := drawn(&x, known)
			y := tried(t, r, p, a)
			if !p.none() {
				known = p.last()
			}
			n := seen[a.how]
			if y.ok || a.how == toHold && y.err == api.OK {
				n[1]++
			} else {
				n[0]++
			}
			seen[a.how] = n
		}
	}
	for _, h := range []how{toHold, toHeld, toAck, toDrop} {
		if seen[h][0] < 500 || seen[h][1] < 500 {
			t.Errorf("call %d: %v", h, seen[h])
		}
	}
}

// fewActs are acts that turn on one another.
func fewActs() []act {
	a, b := thePass(), placed(7, 13)
	wrong := changed(a, func(f *api.Frame) { f.Bits = 1 })
	return []act{
		{how: toHold, f: a}, {how: toHold, f: b}, {how: toHold, f: wrong}, {how: toHeld},
		{how: toAck, f: ackOf(a)}, {how: toAck, f: ackOf(b)}, {how: toDrop, at: place(7, 13)}, {how: toDrop, at: place(8, 0)},
	}
}

// TestAllShortOnes: P15.1, all rows of up to five of them.
func TestAllShortOnes(t *testing.T) {
	acts := fewActs()
	var all func(row []act)
	all = func(row []act) {
		r, p := New(), &plain{}
		for _, a := range row {
			tried(t, r, p, a)
		}
		if len(row) == 5 {
			tried(t, r, p, act{how: toHeld})
			return
		}
		for _, a := range acts {
			all(append(row[:len(row):len(row)], a))
		}
	}
	all(nil)
}
