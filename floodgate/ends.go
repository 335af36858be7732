package floodgate

import "floodgate/api"

// goThroughEnd goes from behind the blocks of a member to the first byte behind its end, which only Long may have.
func (m *machine) goThroughEnd() pause {
	switch m.state {
	case memberSum:
		if standing := m.passSum(); standing != moving {
			return standing
		}
		m.state = memberSize
		fallthrough
	case memberSize:
		if standing := m.passSize(); standing != moving {
			return standing
		}
		m.state = memberEnd
		fallthrough
	case memberEnd:
		if standing := m.need(8); standing != moving {
			return standing
		}
		if m.config.Format != api.Long {
			return m.refuse(api.ErrTrail)
		}
		m.state = memberBegin
	}
	return moving
}

func (m *machine) passSum() pause {
	if m.config.Format == api.Raw {
		return moving
	}
	if standing := m.need(32); standing != moving {
		return standing
	}
	told := 0
	for range 4 {
		told = told<<8 | m.bits.read(8)
	}
	if told != m.member.sum.number() {
		return m.refuse(api.ErrSum)
	}
	return moving
}

func (m *machine) passSize() pause {
	if m.config.Format != api.Long {
		return moving
	}
	if standing := m.need(16); standing != moving {
		return standing
	}
	if m.bits.read(16) != int(m.member.size) {
		return m.refuse(api.ErrSize)
	}
	return moving
}
