package floodgate

import (
	"slices"

	"floodgate/api"
	"floodgate/codes"
)

// endSymbol is the symbol of the literal set by which a block ends.
const endSymbol = api.Literals - 1

// shortLiterals is how many symbols of the fixed literal set have a code of 8 bits; the others have 9.
const shortLiterals = 243

// span is a number that is told by a symbol and by a number of some bits behind it, which is added to the least.
type span struct {
	least, bits int
}

// spanOf tells what the length symbols (from 3 on) and the distance symbols (from 1 on) stand for.
func spanOf(symbol, from int) span {
	if symbol < 4 {
		return span{least: from + symbol}
	}
	bits := (symbol - 2) / 2
	return span{least: from + (2+symbol%2)<<bits, bits: bits}
}

type literalKind int

const (
	aByte literalKind = iota
	anEnd
	aLength
)

// literal is what a symbol of the literal set stands for.
type literal struct {
	kind   literalKind
	value  byte
	length span
}

func literalOf(symbol int) literal {
	switch {
	case symbol < endSymbol:
		return literal{kind: aByte, value: byte(symbol)}
	case symbol == endSymbol:
		return literal{kind: anEnd}
	default:
		return literal{kind: aLength, length: spanOf(symbol-api.Literals, 3)}
	}
}

func distanceOf(symbol int) span {
	return spanOf(symbol, 1)
}

// sets are the two tables by which the content of a block is read.
type sets struct {
	literals  *codes.Table[literal]
	distances *codes.Table[span]
}

func setsOf(literals, distances []int) *sets {
	return &sets{
		literals:  codes.NewTable(literals, literalOf),
		distances: codes.NewTable(distances, distanceOf),
	}
}

// takeFixedSets makes the fixed sets only once, as a hostile stream may be nothing but empty fixed blocks.
func (m *machine) takeFixedSets() {
	if m.fixed == nil {
		short, long := slices.Repeat([]int{8}, shortLiterals), slices.Repeat([]int{9}, maxSymbols-shortLiterals)
		m.fixed = setsOf(slices.Concat(short, long), slices.Repeat([]int{4}, api.MaxDists))
	}
	m.sets = m.fixed
}
