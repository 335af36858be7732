package floodgate

import "floodgate/api"

// The marks of a Long head; a Short one has none, and Raw has no head.
const (
	nameMark  = 1
	noteMark  = 2
	checkMark = 4
	allMarks  = nameMark + noteMark + checkMark
)

// goThroughHead begins a member, and goes through all parts of its head, over those that the format or the marks leave out.
func (m *machine) goThroughHead() pause {
	first, second := fixedBytes(m.config.Format)
	switch m.state {
	case memberBegin:
		if standing := m.beginMember(); standing != moving {
			return standing
		}
		m.state = headFirst
		fallthrough
	case headFirst:
		if standing := m.passFixed(first); standing != moving {
			return standing
		}
		m.state = headSecond
		fallthrough
	case headSecond:
		if standing := m.passFixed(second); standing != moving {
			return standing
		}
		m.state = headMarks
		fallthrough
	case headMarks:
		if standing := m.passMarks(); standing != moving {
			return standing
		}
		m.state = headName
		fallthrough
	case headName:
		if standing := m.passText(nameMark); standing != moving {
			return standing
		}
		m.state = headNote
		fallthrough
	case headNote:
		if standing := m.passText(noteMark); standing != moving {
			return standing
		}
		m.state = headCheck
		fallthrough
	case headCheck:
		if standing := m.passCheck(); standing != moving {
			return standing
		}
		m.state = blockHead
	}
	return moving
}

// beginMember needs the member's first byte, and leaves it in hand. The member before is forgotten: nothing leads back into it.
func (m *machine) beginMember() pause {
	if standing := m.need(8); standing != moving {
		return standing
	}
	if m.tally.members == m.config.Members {
		return m.refuse(api.ErrMembers)
	}
	m.tally.members++
	m.member = member{sum: emptySum()}
	m.window.Clear()
	return moving
}

// fixedBytes tells those with which a head of Short or Long begins.
func fixedBytes(format int) (first, second byte) {
	if format == api.Short {
		return 's', 1
	}
	return 'L', 2
}

func (m *machine) takeHeadByte() (byte, pause) {
	if standing := m.need(8); standing != moving {
		return 0, standing
	}
	if m.member.head == m.config.Head {
		return 0, m.refuse(api.ErrLong)
	}
	taken := byte(m.bits.read(8))
	m.member.head++
	m.member.headSum += taken
	return taken, moving
}

func (m *machine) passByte(want byte) pause {
	taken, standing := m.takeHeadByte()
	if standing != moving {
		return standing
	}
	if taken != want {
		return m.refuse(api.ErrHead)
	}
	return moving
}

func (m *machine) passFixed(want byte) pause {
	if m.config.Format == api.Raw {
		return moving
	}
	return m.passByte(want)
}

func (m *machine) passMarks() pause {
	if m.config.Format != api.Long {
		return moving
	}
	taken, standing := m.takeHeadByte()
	if standing != moving {
		return standing
	}
	if taken > allMarks {
		return m.refuse(api.ErrHead)
	}
	m.member.marks = taken
	return moving
}

// passText passes bytes up to one that is 0, if the head has this mark.
func (m *machine) passText(mark byte) pause {
	if m.member.marks&mark == 0 {
		return moving
	}
	for {
		taken, standing := m.takeHeadByte()
		if standing != moving || taken == 0 {
			return standing
		}
	}
}

func (m *machine) passCheck() pause {
	if m.member.marks&checkMark == 0 {
		return moving
	}
	return m.passByte(m.member.headSum)
}
