package floodgate

import (
	"floodgate/api"
	"floodgate/codes"
	"floodgate/ring"
)

// state is the place in a stream where the machine is.
type state int

const (
	headFirst state = iota
	headSecond
	headMarks
	headName
	headNote
	headCheck
	blockHead
	plainSizes
	plainBytes
	ownLiterals
	ownDistances
	ownHelpers
	helperLengths
	rowSymbol
	rowNumber
	contentByte
	contentSymbol
	lengthNumber
	distanceSymbol
	distanceNumber
	copying
	memberSum
	memberSize
	memberEnd
)

// pause is why the machine stands still.
type pause int

const (
	moving  pause = iota // it does not
	hungry               // it needs a byte, and none is offered
	full                 // it would put out a byte, and there is no room for it
	refused              // something is wrong
)

// machine goes through a stream, and can stop at any byte.
type machine struct {
	format  int
	state   state
	err     api.Errno
	supply  supply
	bits    bits
	waiting *ring.Ring[byte] // what is put out and not drained
	window  *ring.Ring[byte] // what came out of this member last
	member  member

	last     bool // the block is the member's last one
	left     int  // bytes of a plain block, or of a copy, that are still to come out
	own      ownBlock
	fixed    *sets
	sets     *sets // those of the block
	literal  byte  // to be put out
	span     span  // of the length or the distance whose number is to be read
	distance int
}

// member is what is kept of the member that the machine is in, beside its window.
type member struct {
	marks   byte   // of its head
	headSum byte   // of the bytes of its head so far
	sum     sum    // of what came out of it
	size    uint16 // how many bytes came out of it
}

// newMachine makes one for a format that there is.
func newMachine(format int) *machine {
	m := &machine{
		format:  format,
		waiting: ring.New[byte](api.Room),
		window:  ring.New[byte](api.Window),
	}
	m.beginMember()
	return m
}

// beginMember forgets the member before: nothing leads back into it.
func (m *machine) beginMember() {
	m.member = member{sum: emptySum()}
	m.window.Clear()
	m.state = headFirst
	if m.format == api.Raw {
		m.state = blockHead
	}
}

// offer hands the machine bytes that it may take; those it was offered before are forgotten.
func (m *machine) offer(pieces ...string) {
	m.supply = supplyOf(pieces...)
}

// run goes on as far as it can.
func (m *machine) run() pause {
	standing := moving
	for standing == moving {
		standing = m.step()
	}
	return standing
}

func (m *machine) step() pause {
	switch m.state {
	case headFirst, headSecond, headMarks, headName, headNote, headCheck:
		return m.goThroughHead()
	case blockHead:
		return m.beginBlock()
	case plainSizes, plainBytes:
		return m.goThroughPlain()
	case ownLiterals, ownDistances, ownHelpers, helperLengths:
		return m.goThroughOwn()
	case rowSymbol, rowNumber:
		return m.goThroughRow()
	case memberSum, memberSize, memberEnd:
		return m.goThroughEnd()
	default:
		return m.goThroughContent()
	}
}

// verdict tells what is to be said of the stream, if no more bytes come and all that could come out did.
func (m *machine) verdict() api.Errno {
	if m.err == api.OK && m.state != memberEnd {
		return api.ErrShort
	}
	return m.err
}

func (m *machine) refuse(e api.Errno) pause {
	m.err = e
	return refused
}

// need takes bytes until so many bits are in hand, and none that these bits do not reach into.
func (m *machine) need(count int) pause {
	for m.bits.count < count {
		next, ok := m.supply.next()
		if !ok {
			return hungry
		}
		m.bits.add(next)
	}
	return moving
}

// put puts a byte out.
func (m *machine) put(b byte) pause {
	if m.waiting.IsFull() {
		return full
	}
	m.waiting.Push(b)
	m.window.Push(b)
	m.member.sum.add(b)
	m.member.size++
	return moving
}

// readSpan reads the number behind a length, a distance or a helper symbol.
func (m *machine) readSpan(s span) (int, pause) {
	if standing := m.need(s.bits); standing != moving {
		return 0, standing
	}
	return s.least + m.bits.read(s.bits), moving
}

// readSymbol leaves the bits in hand until they are a code, so that it can begin anew when it had to stop for a byte.
func readSymbol[T any](m *machine, table *codes.Table[T]) (T, pause) {
	var nothing T
	code := 0
	for length := 1; length <= table.Longest(); length++ {
		if standing := m.need(length); standing != moving {
			return nothing, standing
		}
		code = code<<1 | m.bits.at(length-1)
		if meaning, ok := table.Find(code, length); ok {
			m.bits.read(length)
			return meaning, moving
		}
	}
	// Only a set of distances may lack a code: the others are complete.
	return nothing, m.refuse(api.ErrDist)
}
