package floodgate

import (
	"floodgate/api"
	"floodgate/codes"
)

// fewestHelpers is how many helper symbols have their lengths told in every own block.
const fewestHelpers = 4

// helperOrder is the order in which the lengths of the helper symbols come.
var helperOrder = [api.Helpers]int{13, 14, 12, 0, 7, 8, 6, 9, 5, 10, 4, 11, 3, 2, 1}

// helper is what a helper symbol stands for: a length, and how often it comes.
type helper struct {
	length int
	before bool // it is the length before that comes
	times  span
}

func helperOf(symbol int) helper {
	switch symbol {
	case 12:
		return helper{before: true, times: span{least: 3, bits: 2}}
	case 13:
		return helper{times: span{least: 3, bits: 3}}
	case 14:
		return helper{times: span{least: 11, bits: 6}}
	default:
		return helper{length: symbol, times: span{least: 1}}
	}
}

// ownBlock is what was read of the sets of an own block.
type ownBlock struct {
	literals, distances int // how many lengths these sets have in the row
	told                int // how many helper symbols have their lengths told
	helperLengths       []int
	helpers             *codes.Table[helper]
	helper              helper // whose number is to be read
	row                 []int
}

// goThroughOwn reads up to the row of lengths.
func (m *machine) goThroughOwn() pause {
	switch m.state {
	case ownLiterals:
		if standing := m.need(4); standing != moving {
			return standing
		}
		m.own.literals = api.Literals + m.bits.read(4)
		if m.own.literals > maxSymbols {
			return m.refuse(api.ErrCodes)
		}
		m.state = ownDistances
		fallthrough
	case ownDistances:
		if standing := m.need(4); standing != moving {
			return standing
		}
		m.own.distances = 1 + m.bits.read(4)
		m.state = ownHelpers
		fallthrough
	case ownHelpers:
		if standing := m.need(4); standing != moving {
			return standing
		}
		m.own.told = fewestHelpers + m.bits.read(4)
		if m.own.told > api.Helpers {
			return m.refuse(api.ErrCodes)
		}
		m.state = helperLengths
		fallthrough
	case helperLengths:
		for len(m.own.helperLengths) < m.own.told {
			if standing := m.need(3); standing != moving {
				return standing
			}
			m.own.helperLengths = append(m.own.helperLengths, m.bits.read(3))
		}
		if !m.own.makeHelpers() {
			return m.refuse(api.ErrCodes)
		}
		m.state = rowSymbol
	}
	return moving
}

// makeHelpers tells whether the helper set is one that may be.
func (o *ownBlock) makeHelpers() bool {
	var lengths [api.Helpers]int
	for i, length := range o.helperLengths {
		lengths[helperOrder[i]] = length
	}
	if !codes.SetOf(lengths[:]).IsComplete() {
		return false
	}
	o.helpers = codes.NewTable(lengths[:], helperOf)
	return true
}

// goThroughRow reads a helper symbol of the row with its number.
func (m *machine) goThroughRow() pause {
	switch m.state {
	case rowSymbol:
		found, standing := readSymbol(m, m.own.helpers)
		if standing != moving {
			return standing
		}
		m.own.helper = found
		m.state = rowNumber
		fallthrough
	case rowNumber:
		times, standing := m.readSpan(m.own.helper.times)
		if standing != moving {
			return standing
		}
		if !m.own.extendRow(times) {
			return m.refuse(api.ErrCodes)
		}
		m.state = rowSymbol
	}
	if m.own.rowIsWhole() {
		return m.endRow()
	}
	return moving
}

// extendRow tells whether the helper in hand may stand where it does.
func (o *ownBlock) extendRow(times int) bool {
	length := o.helper.length
	if o.helper.before {
		if len(o.row) == 0 {
			return false
		}
		length = o.row[len(o.row)-1]
	}
	if len(o.row)+times > o.literals+o.distances {
		return false
	}
	for range times {
		o.row = append(o.row, length)
	}
	return true
}

func (o *ownBlock) rowIsWhole() bool {
	return len(o.row) == o.literals+o.distances
}

// endRow makes the sets of which the row told the lengths.
func (m *machine) endRow() pause {
	literals, distances := m.own.row[:m.own.literals], m.own.row[m.own.literals:]
	if literals[endSymbol] == 0 || !codes.SetOf(literals).IsComplete() || !mayBeDistances(codes.SetOf(distances)) {
		return m.refuse(api.ErrCodes)
	}
	m.sets = setsOf(literals, distances)
	m.own = ownBlock{}
	m.state = contentSymbol
	return moving
}

func mayBeDistances(set codes.Set) bool {
	return set.IsComplete() || set.IsSingle() || set.IsEmpty()
}
