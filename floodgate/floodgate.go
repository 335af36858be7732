// Package floodgate unpacks what may be hostile, within fixed bounds: see DOC.md.
package floodgate

import "floodgate/api"

// Gate unpacks a stream that comes in pieces.
type Gate struct {
	machine  *machine
	closed   bool
	accepted bool
}

// Open makes a gate (P6).
func Open(c api.Config) (*Gate, api.Errno) {
	if !mayBe(c) {
		return nil, api.ErrConfig
	}
	return &Gate{machine: newMachine(c)}, api.OK
}

// Write offers pieces; how many bytes were taken (P7).
func (g *Gate) Write(pieces ...string) (int, api.Errno) {
	if e := g.shut(); e != api.OK {
		return 0, e
	}
	before := g.machine.tally.taken
	g.goOn(pieces...)
	return g.machine.tally.taken - before, g.machine.err
}

// Drain takes bytes out (P8).
func (g *Gate) Drain(n int) (string, api.Errno) {
	if g.machine.err != api.OK {
		return "", g.machine.err
	}
	if n < 0 {
		return "", api.ErrArg
	}
	drained := string(g.machine.waiting.Take(n))
	g.goOn()
	return drained, api.OK
}

// Close tells that no more bytes come (P9).
func (g *Gate) Close() api.Errno {
	if e := g.shut(); e != api.OK {
		return e
	}
	g.closed = true
	g.goOn()
	return g.machine.err
}

// Tell tells how things stand (P10).
func (g *Gate) Tell() api.State {
	m := g.machine
	return api.State{
		In:       m.tally.taken,
		Out:      m.tally.put,
		Waiting:  m.waiting.Len(),
		Members:  m.tally.members,
		Steps:    m.tally.steps(),
		Accepted: g.accepted,
		Err:      m.err,
	}
}

// shut tells why no more bytes may come.
func (g *Gate) shut() api.Errno {
	if g.machine.err == api.OK && g.closed {
		return api.ErrClosed
	}
	return g.machine.err
}

// goOn lets the machine go as far as it can. One that needs a byte when no more come is at the end of its stream, or never gets there.
func (g *Gate) goOn(pieces ...string) {
	if g.machine.run(pieces...) != hungry || !g.closed {
		return
	}
	if e := g.machine.verdict(); e != api.OK {
		g.machine.refuse(e)
		return
	}
	g.accepted = true
}
