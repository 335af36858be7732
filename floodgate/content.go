package floodgate

import "floodgate/api"

// goThroughContent reads a symbol of the content, and puts out what it stands for.
func (m *machine) goThroughContent() pause {
	switch m.state {
	case contentByte:
		if standing := m.put(m.literal); standing != moving {
			return standing
		}
		m.state = contentSymbol
		fallthrough
	case contentSymbol:
		found, standing := readSymbol(m, m.sets.literals)
		if standing != moving {
			return standing
		}
		if found.kind != aLength {
			return m.goToLiteral(found)
		}
		m.span = found.length
		m.state = lengthNumber
		fallthrough
	case lengthNumber:
		length, standing := m.readSpan(m.span)
		if standing != moving {
			return standing
		}
		m.left = length
		m.state = distanceSymbol
		fallthrough
	case distanceSymbol:
		found, standing := readSymbol(m, m.sets.distances)
		if standing != moving {
			return standing
		}
		m.span = found
		m.state = distanceNumber
		fallthrough
	case distanceNumber:
		distance, standing := m.readSpan(m.span)
		if standing != moving {
			return standing
		}
		// The window reaches as far back as any distance, so it holds fewer bytes only if fewer came out.
		if distance > m.window.Len() {
			return m.refuse(api.ErrDist)
		}
		m.distance = distance
		m.state = copying
		fallthrough
	case copying:
		for ; m.left > 0; m.left-- {
			if standing := m.put(m.window.Back(m.distance)); standing != moving {
				return standing
			}
		}
		m.state = contentSymbol
	}
	return moving
}

func (m *machine) goToLiteral(found literal) pause {
	if found.kind == anEnd {
		return m.endBlock()
	}
	m.literal = found.value
	m.state = contentByte
	return moving
}
