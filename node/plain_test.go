package node

import (
	"slices"

	"annona/api"
	"annona/edge"
	"annona/token"
	"annona/vault"
	"annona/visit"
)

// The plain reckoning: a node, and its disk, by the chapters' words alone; what an edge answers, and what a visit does, is told by an edge and by visits of its own.

// records are a disk's, of which the first ones are safe, and how many bytes it has room for.
type records struct {
	all  []vault.State
	safe int
	room int
}

// last is the state of the last one.
func (r *records) last() vault.State {
	if len(r.all) == 0 {
		return vault.State{}
	}
	return r.all[len(r.all)-1]
}

// crash loses what is loose, but for so many bytes.
func (r *records) crash(keep int) {
	r.all = r.all[:min(len(r.all), r.safe+max(keep, 0)/bytesOf)]
	r.safe = len(r.all)
}

// plain is a node.
type plain struct {
	c               api.Conf
	id              int
	disk            *records
	promised, round int
	stands          bool
	bits            uint64
	heard           []int
	held            []api.Frame // one at most
	tokens          []api.Token // one at most
	edge            *edge.Edge
	seen            int
	won, since      int
	breaks, halted  bool
	places          []token.Place // of all that it accepted
}

// plainOn is a new one on a disk.
func plainOn(c api.Conf, id int, r *records, now int) *plain {
	p := &plain{c: c, id: id, disk: r, promised: r.last().Promised, round: r.last().Round, seen: now}
	for range c.N {
		p.heard = append(p.heard, now)
	}
	p.edge, _ = edge.New(c)
	r.safe = len(r.all)
	return p
}

// number is an int as a number.
func number(x int) int {
	return min(max(x, 0), end)
}

// passed tells whether a span has passed.
func passed(since, now, span int) bool {
	return number(now) >= min(number(since)+span, end)
}

// next is who comes behind it of those that are alive.
func (p *plain) next(now int) int {
	for k := 1; k < p.c.N; k++ {
		if i := (p.id + k) % p.c.N; !passed(p.heard[i], now, p.c.Hear) {
			return i
		}
	}
	return p.id
}

// place is that of the token that was accepted last.
func (p *plain) place() token.Place {
	return token.Place{Gen: p.disk.last().Gen, Hop: p.disk.last().Hop}
}

// drop lets what is held go, if it is older.
func (p *plain) drop(than token.Place) {
	p.held = slices.DeleteFunc(p.held, func(f api.Frame) bool {
		return newer(than, token.Place{Gen: f.Token.Gen, Hop: f.Token.Hop})
	})
}

// crash halts it.
func (p *plain) crash() []api.Answer {
	if p.halted {
		return nil
	}
	p.halted, p.tokens = true, nil
	return p.edge.Crash()
}

// keep keeps what is promised, the round, and a place; whoever is told here waits no more, since it halted.
func (p *plain) keep(at token.Place) []api.Answer {
	s, was := state(p.promised, at.Gen, at.Hop, p.round), p.disk.last()
	back := s.Promised < was.Promised || s.Round < was.Round || newer(p.place(), at)
	if back || bytesOf*(len(p.disk.all)+1) > p.disk.room {
		return p.crash()
	}
	p.disk.all = append(p.disk.all, s)
	if p.breaks {
		return p.crash()
	}
	if len(p.disk.all) > 64 {
		p.disk.all = []vault.State{s}
	}
	p.disk.safe = len(p.disk.all)
	return nil
}

// promise promises a greater ballot.
func (p *plain) promise(gen int) bool {
	if gen <= p.promised {
		return false
	}
	p.promised, p.stands = gen, false
	return true
}

// wins tells whether a majority's bits are there.
func (p *plain) wins() bool {
	count := 0
	for i := range p.c.N {
		count += int(p.bits >> i & 1)
	}
	if !p.stands || 2*count <= p.c.N {
		return false
	}
	p.stands = false
	return true
}

// accept makes a token its own.
func (p *plain) accept(t api.Token, now int) []api.Answer {
	at := token.Place{Gen: t.Gen, Hop: t.Hop}
	if !newer(at, p.place()) {
		// No way back, not even to the same one.
		return p.crash()
	}
	p.promise(t.Gen)
	p.drop(at)
	if p.won < t.Gen {
		p.won = 0
	}
	answers := p.keep(at)
	if p.halted {
		return answers
	}
	t, answers, _ = visit.Visit(t, p.edge, p.id, now, p.c)
	p.tokens, p.seen = []api.Token{t}, now
	p.places = append(p.places, at)
	return answers
}

// to is a frame to the next one, if there is another one.
func (p *plain) to(f api.Frame, now int) []api.Frame {
	f.From, f.To = p.id, p.next(now)
	if f.To == p.id {
		return nil
	}
	return []api.Frame{f}
}

// told is what is told of what was done: no frames of one that halted.
func (p *plain) told(f []api.Frame, a []api.Answer) said {
	if p.halted {
		return said{answers: a, err: api.ErrHalt}
	}
	return said{frames: f, answers: a}
}

// receive takes a frame that may be, to it, from one of the ring, at a reading that may be.
func (p *plain) receive(f api.Frame, now int) said {
	if p.halted {
		return fails(api.ErrHalt)
	}
	p.heard[f.From] = max(p.heard[f.From], now)
	switch f.Kind {
	case api.Ack:
		p.held = slices.DeleteFunc(p.held, func(h api.Frame) bool {
			return h.To == f.From && h.From == f.To && h.Token.Gen == f.Gen && h.Token.Hop == f.Hop
		})
	case api.Elect:
		return p.elect(f, now)
	case api.Pass:
		return p.pass(f, now)
	}
	return said{}
}

func (p *plain) elect(f api.Frame, now int) said {
	if p.promise(f.Gen) {
		p.tokens = slices.DeleteFunc(p.tokens, func(t api.Token) bool { return t.Gen < f.Gen })
		p.drop(token.Place{Gen: f.Gen})
		p.won, p.seen = 0, now
		l := p.keep(p.place())
		return p.told(p.to(electOf(p.id, 0, f.Gen, f.Bits|1<<p.id), now), l)
	}
	if f.Gen == p.promised && p.stands {
		p.bits |= f.Bits
		if p.wins() {
			p.won, p.since = f.Gen, now
		}
	}
	return said{}
}

func (p *plain) pass(f api.Frame, now int) said {
	t := f.Token
	ack := []api.Frame{ackOf(p.id, f.From, t.Gen, t.Hop)}
	switch {
	case len(t.Stamps) != p.c.N, t.Gen < p.promised:
		return said{}
	case newer(token.Place{Gen: t.Gen, Hop: t.Hop}, p.place()):
		return p.told(ack, p.accept(t, now))
	case t.Gen == p.place().Gen:
		return sends(ack...)
	}
	return said{}
}

// step is a step at a reading that may be.
func (p *plain) step(now int) said {
	if p.halted {
		return fails(api.ErrHalt)
	}
	answers := p.edge.Expire(now)
	var frames []api.Frame
	for i := range p.c.N {
		if i != p.id {
			frames = append(frames, beatOf(p.id, i))
		}
	}
	for _, t := range p.tokens {
		p.tokens = nil
		if t.Hop == most {
			break
		}
		t = copied(t)
		t.Hop++
		if p.next(now) == p.id {
			answers = append(answers, p.accept(t, now)...)
		} else if len(p.held) == 0 {
			p.held = p.to(passOf(0, 0, t), now)
		}
	}
	if p.halted {
		return p.told(nil, answers)
	}
	frames = append(frames, p.held...)
	more := p.renew(now)
	return p.told(append(frames, more.frames...), append(answers, more.answers...))
}

// renew is a step's last point.
func (p *plain) renew(now int) said {
	if p.won > 0 {
		if !passed(p.since, now, p.c.Valid+p.c.TTL+4*p.c.Skew) {
			return said{}
		}
		t := api.Token{Gen: p.won, Stamps: slices.Repeat([]int{-1}, p.c.N), Table: api.Table{Start: now}}
		t.Stamps[p.id] = now
		answers := p.accept(t, now)
		p.won = 0
		return said{answers: answers}
	}
	if len(p.tokens) > 0 || !passed(p.seen, now, p.c.Loss) {
		return said{}
	}
	round := 1
	for p.c.N*round+p.id <= p.promised {
		round++
	}
	ballot := p.c.N*round + p.id
	p.promised, p.round, p.stands, p.bits = ballot, round, true, 1<<p.id
	p.seen = now
	p.drop(token.Place{Gen: ballot})
	won := p.wins()
	if l := p.keep(p.place()); p.halted {
		return said{answers: l}
	}
	if won {
		p.won, p.since = ballot, now
		return said{}
	}
	return said{frames: p.to(electOf(0, 0, ballot, 1<<p.id), now)}
}

// ask asks it.
func (p *plain) ask(r api.Request, now int) said {
	if p.halted {
		return fails(api.ErrHalt)
	}
	return said{answers: p.edge.Ask(r, now)}
}

// looks are all that it has.
func (p *plain) looks() looks {
	l := looks{state: p.disk.last(), won: p.won, halted: p.halted, promised: p.promised, round: p.round}
	if p.stands {
		l.standing = p.promised
	}
	for _, t := range p.tokens {
		l.token, l.has = t, true
	}
	l.items, l.leases = p.edge.Waiting(), p.edge.Leases()
	return l
}
