package codes_test

import (
	"slices"
	"strconv"
	"testing"

	"floodgate/api"
	"floodgate/codes"
)

// setsWithTables are such as a table may be made of.
func setsWithTables() [][]int {
	return [][]int{
		nil,
		{0},
		{0, 0, 0},
		{1},
		{0, 1, 0},
		{1, 1},
		{0, 1, 0, 1},
		{2, 1, 2},
		{3, 0, 3, 2, 0, 1},
		slices.Repeat([]int{4}, 16),
		slices.Concat([]int{1}, slices.Repeat([]int{4}, 8)),
		{1, 2, 3, 4, 5, 6, 7, 8, 9, 10, 11, 11},
		{11, 11, 10, 9, 8, 7, 6, 5, 4, 3, 2, 1},
		slices.Concat(slices.Repeat([]int{8}, 243), slices.Repeat([]int{9}, 26)),
	}
}

func name(symbol int) string {
	return "symbol " + strconv.Itoa(symbol)
}

// wantFound checks all codes of a length: those of symbols lead to them, the others nowhere.
func wantFound[T comparable](t *testing.T, lengths []int, length int, meaning func(int) T) {
	t.Helper()
	table := codes.NewTable(lengths, meaning)
	symbols := map[int]int{}
	for symbol, code := range codes.Assign(lengths) {
		if lengths[symbol] == length {
			symbols[code] = symbol
		}
	}
	for code := range 1 << length {
		var want T
		symbol, is := symbols[code]
		if is {
			want = meaning(symbol)
		}
		if got, ok := table.Find(code, length); got != want || ok != is {
			t.Fatalf("the set %v: Find(%d, %d) = %v, %v, want %v, %v", lengths, code, length, got, ok, want, is)
		}
	}
}

func TestTableFindsEveryCodeAndNoOther(t *testing.T) {
	for _, lengths := range setsWithTables() {
		for length := 1; length <= api.MaxBits; length++ {
			wantFound(t, lengths, length, name)
			wantFound(t, lengths, length, func(symbol int) int { return symbol + 1 })
		}
	}
}

func TestTableKnowsItsLongestCode(t *testing.T) {
	for _, lengths := range setsWithTables() {
		want := slices.Max(append([]int{0}, lengths...))
		if got := codes.NewTable(lengths, name).Longest(); got != want {
			t.Errorf("the set %v: Longest = %d, want %d", lengths, got, want)
		}
	}
}

func TestTableKeepsNothingOfItsLengths(t *testing.T) {
	lengths := []int{2, 1, 2}
	table := codes.NewTable(lengths, name)
	copy(lengths, []int{1, 2, 2})
	if got, ok := table.Find(0, 1); got != "symbol 1" || !ok {
		t.Errorf("writing into the lengths is seen in the table: %q, %v", got, ok)
	}
}

func TestKindsOfSets(t *testing.T) {
	for _, c := range []struct {
		lengths                 []int
		complete, single, empty bool
	}{
		{nil, false, false, true},
		{[]int{0, 0}, false, false, true},
		{[]int{1}, false, true, false},
		{[]int{0, 0, 1}, false, true, false},
		{[]int{2}, false, false, false},
		{[]int{11}, false, false, false},
		{[]int{1, 2}, false, false, false},
		{[]int{1, 1}, true, false, false},
		{[]int{2, 2, 0, 2, 2}, true, false, false},
		{[]int{1, 1, 11}, false, false, false},
		{slices.Repeat([]int{1}, 16), false, false, false},
	} {
		set := codes.SetOf(c.lengths)
		if set.IsComplete() != c.complete || set.IsSingle() != c.single || set.IsEmpty() != c.empty {
			t.Errorf("the set %v: %v, %v, %v", c.lengths, set.IsComplete(), set.IsSingle(), set.IsEmpty())
		}
	}
}

func TestLengthsInRange(t *testing.T) {
	for _, c := range []struct {
		lengths []int
		want    bool
	}{
		{nil, true}, {[]int{0, 11}, true}, {[]int{-1}, false}, {[]int{12}, false}, {[]int{0, 1, 12}, false}, {[]int{-1, 5}, false},
	} {
		if got := codes.InRange(c.lengths); got != c.want {
			t.Errorf("InRange(%v) = %v", c.lengths, got)
		}
	}
}
