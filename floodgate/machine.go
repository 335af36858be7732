package floodgate

import (
	"floodgate/api"
	"floodgate/codes"
	"floodgate/ring"
)

// state is the place in a stream where the machine is.
type state int

const (
	memberBegin state = iota
	headFirst
	headSecond
	headMarks
	headName
	headNote
	headCheck
	blockHead
	plainSizes
	plainBytes
	ownLiterals
	ownDistances
	ownHelpers
	helperLengths
	rowSymbol
	rowNumber
	contentByte
	contentSymbol
	lengthNumber
	distanceSymbol
	distanceNumber
	copying
	memberSum
	memberSize
	memberEnd
)

// pause is why the machine stands still.
type pause int

const (
	moving  pause = iota // it does not
	hungry               // it needs a byte, and none is offered
	full                 // it would put out a byte, and there is no room for it
	refused              // something is wrong
)

// machine goes through a stream, and can stop at any byte.
type machine struct {
	config  api.Config
	state   state
	err     api.Errno
	tally   tally
	supply  supply
	bits    bits
	waiting *ring.Ring[byte] // what is put out and not drained
	window  *ring.Ring[byte] // what came out of this member last
	member  member

	last     bool // the block is the member's last one
	left     int  // bytes of a plain block, or of a copy, that are still to come out
	own      ownBlock
	fixed    *sets
	sets     *sets // those of the block
	literal  byte  // to be put out
	span     span  // of the length or the distance whose number is to be read
	distance int
}

// member is what is kept of the member that the machine is in, beside its window.
type member struct {
	marks   byte   // of its head
	head    int    // how many bytes its head has so far
	headSum byte   // of these bytes
	sum     sum    // of what came out of it
	size    uint16 // how many bytes came out of it
}

// newMachine makes one for a configuration whose format there is.
func newMachine(config api.Config) *machine {
	return &machine{
		config:  config,
		waiting: ring.New[byte](api.Room),
		window:  ring.New[byte](api.Window),
	}
}

// run goes on as far as it can with the pieces that are offered. It forgets what it did not take of them, as none of it may be kept.
func (m *machine) run(pieces ...string) pause {
	m.supply = supplyOf(pieces...)
	standing := moving
	for standing == moving {
		standing = m.advance()
	}
	m.supply = supplyOf()
	return standing
}

func (m *machine) advance() pause {
	switch m.state {
	case memberBegin, headFirst, headSecond, headMarks, headName, headNote, headCheck:
		return m.goThroughHead()
	case blockHead:
		return m.beginBlock()
	case plainSizes, plainBytes:
		return m.goThroughPlain()
	case ownLiterals, ownDistances, ownHelpers, helperLengths:
		return m.goThroughOwn()
	case rowSymbol, rowNumber:
		return m.goThroughRow()
	case memberSum, memberSize, memberEnd:
		return m.goThroughEnd()
	default:
		return m.goThroughContent()
	}
}

// verdict tells what is to be said of the stream, if no more bytes come and all that could come out did.
func (m *machine) verdict() api.Errno {
	if m.err == api.OK && m.state != memberEnd {
		return api.ErrShort
	}
	return m.err
}

// refuse is for good: what waits is lost.
func (m *machine) refuse(e api.Errno) pause {
	m.err = e
	m.waiting.Clear()
	return refused
}

// need takes bytes until so many bits are in hand, and none that these bits do not reach into.
func (m *machine) need(count int) pause {
	for m.bits.count < count {
		if standing := m.take(); standing != moving {
			return standing
		}
	}
	return moving
}

// take takes a byte. No quota is looked at for one that is not offered.
func (m *machine) take() pause {
	if m.supply.isEmpty() {
		return hungry
	}
	if e := m.tally.againstTake(m.config); e != api.OK {
		return m.refuse(e)
	}
	m.bits.add(m.supply.next())
	m.tally.taken++
	return moving
}

// put puts a byte out. No quota is looked at for one that there is no room for.
func (m *machine) put(b byte) pause {
	if m.waiting.IsFull() {
		return full
	}
	if e := m.tally.againstPut(m.config); e != api.OK {
		return m.refuse(e)
	}
	m.tally.put++
	m.waiting.Push(b)
	m.window.Push(b)
	m.member.sum.add(b)
	m.member.size++
	return moving
}

// readSpan reads the number behind a length, a distance or a helper symbol.
func (m *machine) readSpan(s span) (int, pause) {
	if standing := m.need(s.bits); standing != moving {
		return 0, standing
	}
	return s.least + m.bits.read(s.bits), moving
}

// readSymbol leaves the bits in hand until they are a code, so that it can begin anew when it had to stop for a byte.
func readSymbol[T any](m *machine, table *codes.Table[T]) (T, pause) {
	var nothing T
	code := 0
	for length := 1; length <= table.Longest(); length++ {
		if standing := m.need(length); standing != moving {
			return nothing, standing
		}
		code = code<<1 | m.bits.at(length-1)
		if meaning, ok := table.Find(code, length); ok {
			m.bits.read(length)
			return meaning, moving
		}
	}
	// Only a set of distances may lack a code: the others are complete.
	return nothing, m.refuse(api.ErrDist)
}
