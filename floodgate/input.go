package floodgate

// supply is what the machine may take bytes from.
type supply struct {
	pieces []string
	at     int // how many bytes of the first piece are taken
}

func supplyOf(pieces ...string) supply {
	return supply{pieces: pieces}
}

// isEmpty passes over the pieces that have no byte left.
func (s *supply) isEmpty() bool {
	for len(s.pieces) > 0 && s.at == len(s.pieces[0]) {
		s.pieces, s.at = s.pieces[1:], 0
	}
	return len(s.pieces) == 0
}

// next takes the next byte of a supply that is not empty.
func (s *supply) next() byte {
	next := s.pieces[0][s.at]
	s.at++
	return next
}

// bits are those of the bytes taken that are not read yet.
type bits struct {
	held  uint64 // the next bit is the lowest
	count int
}

func (b *bits) add(next byte) {
	b.held |= uint64(next) << b.count
	b.count += 8
}

// at tells a bit without reading it: 0 is the next one.
func (b *bits) at(ahead int) int {
	return int(b.held >> ahead & 1)
}

// read reads a number of so many bits, which are in hand.
func (b *bits) read(count int) int {
	number := b.held & (1<<count - 1)
	b.held >>= count
	b.count -= count
	return int(number)
}
