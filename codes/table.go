package codes

// Table is what symbols are read by: it leads from a code to what its symbol stands for.
type Table[T any] struct {
	set      Set
	first    perLength // the first code of each length
	begin    perLength // where the meanings of each length begin
	longest  int       // the most bits that a code has
	meanings []T       // by rising lengths, those of one length by rising symbols
}

// NewTable makes the table of a set that is complete, has a single code of length 1, or none.
func NewTable[T any](lengths []int, meaning func(symbol int) T) *Table[T] {
	set := SetOf(lengths)
	t := &Table[T]{set: set, first: set.firstCodes()}
	total := 0
	for length, count := range set.counts {
		t.begin[length] = total
		total += count
		if count > 0 {
			t.longest = length
		}
	}
	t.meanings = make([]T, total)
	next := t.begin
	for symbol, length := range lengths {
		if length > 0 {
			t.meanings[next[length]] = meaning(symbol)
			next[length]++
		}
	}
	return t
}

// Longest tells how many bits the longest code has; 0, if there is no code.
func (t *Table[T]) Longest() int { return t.longest }

// Find tells what the symbol of a code stands for, and whether there is such a code.
func (t *Table[T]) Find(code, length int) (T, bool) {
	behind := code - t.first[length]
	if behind < 0 || behind >= t.set.counts[length] {
		var nothing T
		return nothing, false
	}
	return t.meanings[t.begin[length]+behind], true
}
