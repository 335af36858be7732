package floodgate

import "floodgate/api"

// The kinds of a block.
const (
	plainKind = 0
	fixedKind = 1
	ownKind   = 2
)

// beginBlock reads the bit and the kind with which a block begins.
func (m *machine) beginBlock() pause {
	if standing := m.need(3); standing != moving {
		return standing
	}
	m.last = m.bits.read(1) == 1
	switch m.bits.read(2) {
	case plainKind:
		m.state = plainSizes
		return m.skipBits()
	case fixedKind:
		m.takeFixedSets()
		m.state = contentSymbol
	case ownKind:
		m.state = ownLiterals
	default:
		return m.refuse(api.ErrBlock)
	}
	return moving
}

// skipBits skips those that are left of the byte: no other bits are in hand.
func (m *machine) skipBits() pause {
	if m.bits.read(m.bits.count) != 0 {
		return m.refuse(api.ErrPad)
	}
	return moving
}

// goThroughPlain leaves a byte in hand until there is room to put it out.
func (m *machine) goThroughPlain() pause {
	switch m.state {
	case plainSizes:
		if standing := m.need(32); standing != moving {
			return standing
		}
		m.left = m.bits.read(16)
		if m.bits.read(16) != 65535-m.left {
			return m.refuse(api.ErrLength)
		}
		m.state = plainBytes
		fallthrough
	case plainBytes:
		for ; m.left > 0; m.left-- {
			if standing := m.need(8); standing != moving {
				return standing
			}
			if standing := m.put(byte(m.bits.held)); standing != moving {
				return standing
			}
			m.bits.read(8)
		}
	}
	return m.endBlock()
}

func (m *machine) endBlock() pause {
	if !m.last {
		m.state = blockHead
		return moving
	}
	m.state = memberSum
	return m.skipBits()
}
