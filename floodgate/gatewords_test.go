package floodgate_test

import (
	"math/rand/v2"
	"testing"

	"floodgate/api"
	"floodgate/floodgate"
)

// wordsGate goes as the document's words say, along the events of a stream of which all bytes are known beforehand.
type wordsGate struct {
	c       api.Config
	events  []event // those to come
	state   api.State
	waiting string
	closed  bool
}

func openByWords(c api.Config, s string) *wordsGate {
	events, _ := eventsByWords(c, s)
	return &wordsGate{c: c, events: events}
}

func (g *wordsGate) write(offered int) (int, api.Errno) {
	if g.state.Err != api.OK {
		return 0, g.state.Err
	}
	if g.closed {
		return 0, api.ErrClosed
	}
	before := g.state.In
	g.goOn(offered)
	return g.state.In - before, g.state.Err
}

func (g *wordsGate) drain(n int) (string, api.Errno) {
	if g.state.Err != api.OK {
		return "", g.state.Err
	}
	if n < 0 {
		return "", api.ErrArg
	}
	n = min(n, len(g.waiting))
	drained := g.waiting[:n]
	g.waiting = g.waiting[n:]
	g.goOn(0)
	return drained, api.OK
}

func (g *wordsGate) close() api.Errno {
	if g.state.Err != api.OK {
		return g.state.Err
	}
	if g.closed {
		return api.ErrClosed
	}
	g.closed = true
	g.goOn(0)
	return g.state.Err
}

func (g *wordsGate) tell() api.State {
	state := g.state
	if state.Err == api.OK {
		state.Waiting = len(g.waiting)
	}
	return state
}

// goOn goes through events until one can't be now.
func (g *wordsGate) goOn(offered int) {
	for g.state.Err == api.OK {
		next := g.events[0]
		switch {
		case next.kind == failing:
			g.state.Err = next.e
		case next.kind == taking && offered == 0:
			g.hunger(next)
			return
		case next.kind == putting && len(g.waiting) == 64:
			return
		case g.state.Steps+1 > g.c.Steps:
			g.state.Err = api.ErrSteps
		case next.kind == taking:
			offered--
			g.state.In++
			g.state.Steps++
			if next.begins {
				g.state.Members++
			}
		case g.state.Out == g.c.Out:
			g.state.Err = api.ErrOut
		case g.state.Out == g.c.Ratio*g.state.In+g.c.Slack:
			g.state.Err = api.ErrRatio
		default:
			g.waiting += string([]byte{next.put})
			g.state.Out++
			g.state.Steps++
		}
		g.events = g.events[1:]
	}
}

func (g *wordsGate) hunger(next event) {
	if !g.closed {
		return
	}
	g.state.Accepted = next.ended
	if !next.ended {
		g.state.Err = api.ErrShort
	}
}

// pair is a gate, and beside it what the words say of it.
type pair struct {
	t       *testing.T
	c       api.Config
	s       string
	gate    *floodgate.Gate
	words   *wordsGate
	drained string
}

func openPair(t *testing.T, c api.Config, s string) *pair {
	t.Helper()
	return &pair{t: t, c: c, s: s, gate: opened(t, c), words: openByWords(c, s)}
}

// left is what was not taken of the stream.
func (p *pair) left() string {
	return p.s[p.words.state.In:]
}

// write offers the next bytes of the stream in pieces.
func (p *pair) write(pieces ...string) {
	p.t.Helper()
	offered := 0
	for _, piece := range pieces {
		offered += len(piece)
	}
	n, e := p.gate.Write(pieces...)
	if want, wantE := p.words.write(offered); n != want || e != wantE {
		p.t.Fatalf("%+v, %q: Write(%q) = %d, %d, want %d, %d", p.c, p.s, pieces, n, e, want, wantE)
	}
	p.check()
}

func (p *pair) drain(n int) {
	p.t.Helper()
	drained, e := p.gate.Drain(n)
	if want, wantE := p.words.drain(n); drained != want || e != wantE {
		p.t.Fatalf("%+v, %q: Drain(%d) = %q, %d, want %q, %d", p.c, p.s, n, drained, e, want, wantE)
	}
	p.drained += drained
	p.check()
}

func (p *pair) close() {
	p.t.Helper()
	e := p.gate.Close()
	if want := p.words.close(); e != want {
		p.t.Fatalf("%+v, %q: Close() = %d, want %d", p.c, p.s, e, want)
	}
	p.check()
}

// check holds Tell against the words, and against P12.
func (p *pair) check() {
	p.t.Helper()
	s := p.gate.Tell()
	if want := p.words.tell(); s != want {
		p.t.Fatalf("%+v, %q: Tell() = %+v, want %+v", p.c, p.s, s, want)
	}
	if s.Waiting > 64 || s.Out > p.c.Out || s.Out > p.c.Ratio*s.In+p.c.Slack || s.Members > p.c.Members || s.Steps > p.c.Steps {
		p.t.Fatalf("%+v, %q: Tell() = %+v: a bound is passed", p.c, p.s, s)
	}
	if s.Err == api.OK && s.Out != len(p.drained)+s.Waiting {
		p.t.Fatalf("%+v, %q: Tell() = %+v, but %d were drained", p.c, p.s, s, len(p.drained))
	}
}

// finish writes and drains all that is left, and closes.
func (p *pair) finish() api.State {
	p.t.Helper()
	for {
		before := p.gate.Tell()
		p.write(p.left())
		p.drain(64)
		if p.gate.Tell() == before {
			break
		}
	}
	p.close()
	for p.gate.Tell().Waiting > 0 {
		p.drain(64)
	}
	return p.gate.Tell()
}

// wander calls at random, but never offers bytes out of turn.
func (p *pair) wander(random *rand.Rand, calls, least int) {
	p.t.Helper()
	for range calls {
		switch random.IntN(9) {
		case 0, 1, 2, 3:
			p.write(inPieces(random, p.left())...)
		case 4, 5, 6:
			p.drain(random.IntN(20))
		case 7:
			p.drain(random.IntN(130) - 1)
		default:
			if random.IntN(10) >= least {
				p.close()
			}
		}
	}
}

// inPieces cuts some of a text into pieces, of which some are empty.
func inPieces(random *rand.Rand, s string) []string {
	var pieces []string
	for random.IntN(3) > 0 {
		end := min(len(s), random.IntN(4)*random.IntN(10))
		pieces = append(pieces, s[:end])
		s = s[end:]
	}
	return pieces
}

// randomConfig is tight in some quotas, near to what the stream would need.
func randomConfig(random *rand.Rand, format int, s string) api.Config {
	c := wide(format)
	events, _ := eventsByWords(c, s)
	out := len(putOut(events))
	tight := func(quota *int, need int) {
		switch random.IntN(6) {
		case 0:
			*quota = random.IntN(need + 2)
		case 1:
			*quota = max(0, need-2+random.IntN(5))
		}
	}
	tight(&c.Out, out)
	tight(&c.Steps, len(events))
	tight(&c.Slack, out)
	if random.IntN(3) == 0 {
		c.Ratio, c.Slack = random.IntN(4), random.IntN(20)
	}
	if random.IntN(4) == 0 {
		c.Head = random.IntN(12)
	}
	if random.IntN(4) == 0 {
		c.Members = 1 + random.IntN(3)
	}
	return c
}

// randomInput is a stream of any format, in two of three cases a marred one.
func randomInput(seed uint64) (*maker, int, string) {
	format := int(seed % 3)
	m, bits := randomStream(seed)
	s := pack(bits)
	if format != api.Raw {
		m, s, _ = randomFrame(format, seed)
	}
	// The head and the end are where most of the errors lie.
	near := min(8*len(s), 56)
	switch m.IntN(9) {
	case 0, 1:
		s = flipped(s, m.IntN(8*len(s)))
	case 2:
		s = flipped(s, m.IntN(near))
	case 3, 4:
		s = flipped(s, 8*len(s)-1-m.IntN(near))
	case 5:
		s = s[:m.IntN(len(s))]
	case 6:
		s += "\x00"
	}
	return m, format, s
}

func TestP7ToP12GatesGoByTheWords(t *testing.T) {
	var seen [api.ErrRatio + 1]int
	accepted := 0
	for seed := range uint64(600) {
		m, format, s := randomInput(seed)
		for range 4 {
			c := randomConfig(m.Rand, format, s)
			p := openPair(t, c, s)
			p.wander(m.Rand, 60, 9+m.IntN(2))
			state := p.finish()
			seen[state.Err]++
			if state.Accepted {
				accepted++
			}
		}
	}
	for e := api.OK; e <= api.ErrRatio; e++ {
		if named := e == api.OK || e >= api.ErrHead; named != (seen[e] > 0) {
			t.Errorf("the error %d was seen %d times", e, seen[e])
		}
	}
	if accepted != seen[api.OK] {
		t.Errorf("%d gates were accepted, %d not refused", accepted, seen[api.OK])
	}
}

// end is what P11 says does not hang on pieces and drains.
type end struct {
	accepted bool
	e        api.Errno
	taken    int
}

// endOf writes a stream by so many bytes, drains so many at a time, and closes.
func endOf(t *testing.T, c api.Config, s string, size, most int) (end, string) {
	t.Helper()
	g, drained, at, still := opened(t, c), "", 0, 0
	for still < 2 {
		n, _ := g.Write(s[at:min(len(s), at+size)])
		d, _ := g.Drain(most)
		at += n
		drained += d
		still++
		if n > 0 || d != "" {
			still = 0
		}
	}
	g.Close()
	for g.Tell().Waiting > 0 {
		d, _ := g.Drain(most)
		drained += d
	}
	state := g.Tell()
	if state.In != at {
		t.Fatalf("%+v, %q: %d taken, but Write told of %d", c, s, state.In, at)
	}
	return end{state.Accepted, state.Err, at}, drained
}

func TestP11TheEndDoesNotHangOnPieces(t *testing.T) {
	for seed := range uint64(300) {
		m, format, s := randomInput(1000 + seed)
		for range 3 {
			c := randomConfig(m.Rand, format, s)
			want, _ := endOf(t, c, s, len(s)+1, 64)
			events, _ := eventsByWords(c, s)
			whole := putOut(events)
			for _, by := range []struct{ size, most int }{{1, 1}, {1, 64}, {2, 7}, {3, 1000}, {64, 1}, {len(s) + 1, 1}, {len(s) + 1, 63}} {
				got, drained := endOf(t, c, s, by.size, by.most)
				if got != want {
					t.Fatalf("%+v, %q: %+v by pieces of %d and drains of %d, else %+v", c, s, got, by.size, by.most, want)
				}
				if len(drained) > len(whole) || whole[:len(drained)] != drained {
					t.Fatalf("%+v, %q: %q was drained, which is no begin of %q", c, s, drained, whole)
				}
				wantLikeMean(t, c, s, got, drained)
			}
		}
	}
}

// wantLikeMean checks what P11 says of Mean.
func wantLikeMean(t *testing.T, c api.Config, s string, got end, drained string) {
	t.Helper()
	mean, e := floodgate.Mean(c.Format, s)
	quota := got.e >= api.ErrSteps || got.e == api.ErrMembers || got.e == api.ErrLong
	if got.accepted != (got.e == api.OK) || !quota && got.e != e || got.accepted && drained != mean {
		t.Fatalf("%+v, %q: %+v and %q, but Mean tells %q and %d", c, s, got, drained, mean, e)
	}
}
