package floodgate

import (
	"strings"

	"floodgate/api"
)

// MeanByPieces goes through a stream as Mean does, but is offered it in pieces of so many bytes, and drains so many bytes at a time. It tells how many bytes were taken, too.
func MeanByPieces(format int, s string, size, most int) (string, int, api.Errno) {
	m := newMachine(format)
	var out strings.Builder
	taken := 0
	for taken < len(s) && m.err == api.OK {
		piece := s[taken:min(len(s), taken+size)]
		half := len(piece) / 2
		m.offer(piece[:half], "", piece[half:])
		runAndDrain(m, &out, most)
		taken += len(piece) - m.supply.left()
	}
	runAndDrain(m, &out, most)
	if e := m.verdict(); e != api.OK {
		return "", taken, e
	}
	return out.String(), taken, api.OK
}

func runAndDrain(m *machine, out *strings.Builder, most int) {
	for m.err == api.OK && m.run() == full {
		out.Write(m.waiting.Take(most))
	}
	for m.waiting.Len() > 0 {
		out.Write(m.waiting.Take(most))
	}
}

// left tells how many bytes were not taken.
func (s *supply) left() int {
	return len(strings.Join(s.pieces, "")) - s.at
}
