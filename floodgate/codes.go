package floodgate

import "floodgate/api"

// maxSymbols is the size of the literal set, the greatest there is.
const maxSymbols = api.Literals + api.MaxLengths

// noCode stands in the place of a code, which is never below 0.
const noCode = -1

// perLength holds a number for each length of a code; the one at 0 stays 0, as no code has that length.
type perLength [api.MaxBits + 1]int

// Codes tells the codes of a set of lengths (P4).
func Codes(lengths []int) ([]int, api.Errno) {
	if len(lengths) > maxSymbols || !allInRange(lengths) {
		return nil, api.ErrCodes
	}
	counts := countCodes(lengths)
	if !isComplete(counts) && !isSingle(counts) {
		return nil, api.ErrCodes
	}
	return assignCodes(lengths, firstCodes(counts)), api.OK
}

func allInRange(lengths []int) bool {
	for _, length := range lengths {
		if length < 0 || length > api.MaxBits {
			return false
		}
	}
	return true
}

// countCodes tells how many codes of each length there are.
func countCodes(lengths []int) perLength {
	var counts perLength
	for _, length := range lengths {
		if length > 0 {
			counts[length]++
		}
	}
	return counts
}

// isComplete measures in shares of 1 / 2^MaxBits, so that all of them are whole numbers.
func isComplete(counts perLength) bool {
	shares := 0
	for length, count := range counts {
		shares += count << (api.MaxBits - length)
	}
	return shares == 1<<api.MaxBits
}

// isSingle tells whether there is one code only, of length 1.
func isSingle(counts perLength) bool {
	return counts == perLength{1: 1}
}

// firstCodes tells the first code of each length: the codes that are shorter end where it begins.
func firstCodes(counts perLength) perLength {
	var first perLength
	for length := 1; length <= api.MaxBits; length++ {
		first[length] = (first[length-1] + counts[length-1]) << 1
	}
	return first
}

// assignCodes goes by rising symbols, as those of one length take their codes in that order.
func assignCodes(lengths []int, next perLength) []int {
	codes := make([]int, len(lengths))
	for symbol, length := range lengths {
		if length == 0 {
			codes[symbol] = noCode
			continue
		}
		codes[symbol] = next[length]
		next[length]++
	}
	return codes
}
