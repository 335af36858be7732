// Package codes has the sets of codes, and the tables by which their symbols are read.
package codes

import "floodgate/api"

// noCode stands in the place of a code, which is never below 0.
const noCode = -1

// perLength holds a number for each length of a code; the one at 0 stays 0, as no code has that length.
type perLength [api.MaxBits + 1]int

// Set is what makes a set of codes be one: how many codes of each length there are.
type Set struct {
	counts perLength
}

// InRange tells whether all lengths are such as a code may have; only of such lengths a set is made.
func InRange(lengths []int) bool {
	for _, length := range lengths {
		if length < 0 || length > api.MaxBits {
			return false
		}
	}
	return true
}

// SetOf makes the set that is given by lengths, one for each symbol.
func SetOf(lengths []int) Set {
	var set Set
	for _, length := range lengths {
		if length > 0 {
			set.counts[length]++
		}
	}
	return set
}

// IsComplete measures in shares of 1 / 2^MaxBits, so that all of them are whole numbers.
func (s Set) IsComplete() bool {
	shares := 0
	for length, count := range s.counts {
		shares += count << (api.MaxBits - length)
	}
	return shares == 1<<api.MaxBits
}

// IsSingle tells whether there is one code only, of length 1.
func (s Set) IsSingle() bool {
	return s.counts == perLength{1: 1}
}

// IsEmpty tells whether there is no code at all.
func (s Set) IsEmpty() bool {
	return s.counts == perLength{}
}

// firstCodes tells the first code of each length: the codes that are shorter end where it begins.
func (s Set) firstCodes() perLength {
	var first perLength
	for length := 1; length <= api.MaxBits; length++ {
		first[length] = (first[length-1] + s.counts[length-1]) << 1
	}
	return first
}

// Assign tells the code of each symbol, -1 for those that have none. It goes by rising symbols, as those of one length take their codes in that order.
func Assign(lengths []int) []int {
	next := SetOf(lengths).firstCodes()
	assigned := make([]int, len(lengths))
	for symbol, length := range lengths {
		if length == 0 {
			assigned[symbol] = noCode
			continue
		}
		assigned[symbol] = next[length]
		next[length]++
	}
	return assigned
}
