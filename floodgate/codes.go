package floodgate

import (
	"floodgate/api"
	"floodgate/codes"
)

// maxSymbols is the size of the literal set, the greatest there is.
const maxSymbols = api.Literals + api.MaxLengths

// Codes tells the codes of a set of lengths (P4).
func Codes(lengths []int) ([]int, api.Errno) {
	if len(lengths) > maxSymbols || !codes.InRange(lengths) {
		return nil, api.ErrCodes
	}
	set := codes.SetOf(lengths)
	if !set.IsComplete() && !set.IsSingle() {
		return nil, api.ErrCodes
	}
	return codes.Assign(lengths), api.OK
}
