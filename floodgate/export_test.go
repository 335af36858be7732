package floodgate

import (
	"strings"

	"floodgate/api"
)

// MeanByPieces goes through a stream as Mean does, but is offered it in pieces of so many bytes, and drains so many bytes at a time. It tells how many bytes were taken, too.
func MeanByPieces(format int, s string, size, most int) (string, int, api.Errno) {
	m := newMachine(withoutQuotas(format))
	var out strings.Builder
	for m.tally.taken < len(s) && m.err == api.OK {
		piece := s[m.tally.taken:min(len(s), m.tally.taken+size)]
		half := len(piece) / 2
		m.run(piece[:half], "", piece[half:])
		drainAll(m, &out, most)
	}
	if e := m.verdict(); e != api.OK {
		return "", m.tally.taken, e
	}
	return out.String(), m.tally.taken, api.OK
}

// drainAll goes on until nothing waits, and no more can come out.
func drainAll(m *machine, out *strings.Builder, most int) {
	for m.err == api.OK && m.waiting.Len() > 0 {
		out.Write(m.waiting.Take(most))
		m.run()
	}
}

// KeepsPieces tells whether a gate can still reach what it was offered.
func KeepsPieces(g *Gate) bool {
	return len(g.machine.supply.pieces) > 0
}
