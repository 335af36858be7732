package floodgate_test

import (
	"math"
	"slices"
	"strconv"
	"strings"
	"testing"

	"floodgate/api"
	"floodgate/floodgate"
)

// repeated is one length, given to so many symbols.
func repeated(length, symbols int) []int {
	return slices.Repeat([]int{length}, symbols)
}

// fixedSet is the literal set of a fixed block: 269 symbols.
func fixedSet() []int {
	return slices.Concat(repeated(8, 243), repeated(9, 26))
}

// codesByWords follows the document's words with texts of bits; nil, if the set is not one that has codes.
func codesByWords(lengths []int) []int {
	if len(lengths) > 269 || !hasCodesByWords(lengths) {
		return nil
	}
	codes := repeated(-1, len(lengths))
	last := ""
	for length := 1; length <= 11; length++ {
		for symbol := range lengths {
			if lengths[symbol] == length {
				last = nextByWords(last, length)
				code, _ := strconv.ParseInt(last, 2, 64)
				codes[symbol] = int(code)
			}
		}
	}
	return codes
}

func nextByWords(last string, length int) string {
	if last == "" {
		return strings.Repeat("0", length)
	}
	n, _ := strconv.ParseInt(last, 2, 64)
	next := strconv.FormatInt(n+1, 2)
	next = strings.Repeat("0", len(last)-len(next)) + next
	return next + strings.Repeat("0", length-len(last))
}

// hasCodesByWords adds up floats, which is exact for these powers of 2.
func hasCodesByWords(lengths []int) bool {
	sum, codes := 0.0, 0
	for _, length := range lengths {
		if length < 0 || length > 11 {
			return false
		}
		if length > 0 {
			sum += math.Ldexp(1, -length)
			codes++
		}
	}
	return sum == 1 || codes == 1 && sum == 0.5
}

func wantCodes(t *testing.T, lengths, want []int) {
	t.Helper()
	got, e := floodgate.Codes(lengths)
	if e != api.OK || !slices.Equal(got, want) {
		t.Fatalf("Codes(%v) = %v, %d, want %v", lengths, got, e, want)
	}
}

func wantNoCodes(t *testing.T, name string, lengths []int) {
	t.Helper()
	got, e := floodgate.Codes(lengths)
	if e != api.ErrCodes || got != nil {
		t.Errorf("%s: Codes = %v, %d, want nil and ErrCodes", name, got, e)
	}
}

func TestP4CompleteSets(t *testing.T) {
	wantCodes(t, []int{1, 1}, []int{0, 1})
	wantCodes(t, []int{1, 2, 2}, []int{0, 2, 3})
	wantCodes(t, []int{2, 1, 2}, []int{2, 0, 3})
	wantCodes(t, []int{2, 2, 1}, []int{2, 3, 0})
	wantCodes(t, []int{3, 1, 3, 2}, []int{6, 0, 7, 2})
	wantCodes(t, []int{4, 4, 1, 4, 4, 2}, []int{12, 13, 0, 14, 15, 2})
	wantCodes(t, []int{1, 2, 3, 4, 5, 6, 7, 8, 9, 10, 11, 11},
		[]int{0, 2, 6, 14, 30, 62, 126, 254, 510, 1022, 2046, 2047})
	wantCodes(t, []int{11, 11, 10, 9, 8, 7, 6, 5, 4, 3, 2, 1},
		[]int{2046, 2047, 1022, 510, 254, 126, 62, 30, 14, 6, 2, 0})
}

func TestP4SkippedLengths(t *testing.T) {
	// From length 1 the codes go straight on to length 4: eight of them.
	lengths := append([]int{1}, repeated(4, 8)...)
	wantCodes(t, lengths, []int{0, 8, 9, 10, 11, 12, 13, 14, 15})
}

func TestP4SymbolsWithoutCode(t *testing.T) {
	wantCodes(t, []int{0, 1, 0, 1, 0}, []int{-1, 0, -1, 1, -1})
	wantCodes(t, []int{2, 0, 1, 0, 0, 2}, []int{2, -1, 0, -1, -1, 3})
}

func TestP4SingleCode(t *testing.T) {
	wantCodes(t, []int{1}, []int{0})
	wantCodes(t, []int{0, 1}, []int{-1, 0})
	wantCodes(t, []int{1, 0, 0}, []int{0, -1, -1})
	for symbol := range 269 {
		lengths, want := repeated(0, 269), repeated(-1, 269)
		lengths[symbol], want[symbol] = 1, 0
		wantCodes(t, lengths, want)
	}
	for length := 2; length <= api.MaxBits; length++ {
		wantNoCodes(t, "a single code of length "+strconv.Itoa(length), []int{0, length, 0})
	}
}

func TestP4GreatestSets(t *testing.T) {
	var want []int
	for symbol := range 269 {
		if symbol < 243 {
			want = append(want, symbol)
		} else {
			want = append(want, 486+symbol-243)
		}
	}
	wantCodes(t, fixedSet(), want)
	wantCodes(t, slices.Concat(repeated(0, 267), []int{1, 1}), slices.Concat(repeated(-1, 267), []int{0, 1}))
}

func TestP4TooManyLengths(t *testing.T) {
	wantNoCodes(t, "a complete set and a symbol too many", append(fixedSet(), 0))
	wantNoCodes(t, "a single code among 270", append([]int{1}, repeated(0, 269)...))
	wantNoCodes(t, "a complete set of 270", slices.Concat(repeated(8, 242), repeated(9, 28)))
	wantNoCodes(t, "a complete set of 2048", repeated(11, 2048))
}

func TestP4LengthsOutOfRange(t *testing.T) {
	wantNoCodes(t, "12 alone", []int{12})
	wantNoCodes(t, "a set that 12 would make complete", []int{1, 2, 3, 4, 5, 6, 7, 8, 9, 10, 11, 12, 12})
	for _, bad := range []int{-1, -11, 12, 63, 64, 256, math.MinInt, math.MaxInt, math.MinInt32, 1 << 32} {
		name := "with " + strconv.Itoa(bad)
		wantNoCodes(t, name, []int{bad})
		wantNoCodes(t, name+" ahead of a complete set", []int{bad, 1, 1})
		wantNoCodes(t, name+" behind a complete set", []int{1, 1, bad})
		wantNoCodes(t, name+" beside a single code", []int{1, bad})
	}
}

func TestP4SetsThatAreNotComplete(t *testing.T) {
	wantNoCodes(t, "nil", nil)
	wantNoCodes(t, "no length", []int{})
	wantNoCodes(t, "no code", []int{0, 0})
	wantNoCodes(t, "no code among 269", repeated(0, 269))
	wantNoCodes(t, "too few", []int{2, 2})
	wantNoCodes(t, "too few by one of the longest", []int{1, 2, 3, 4, 5, 6, 7, 8, 9, 10, 11})
	wantNoCodes(t, "length 1 and too few besides", []int{1, 2})
	wantNoCodes(t, "too many", []int{1, 1, 1})
	wantNoCodes(t, "too many by one of the longest", []int{1, 1, 11})
	wantNoCodes(t, "twice too many", []int{1, 1, 1, 1})
	wantNoCodes(t, "as many as there may be, all of length 1", repeated(1, 269))
	wantNoCodes(t, "as many as there may be, all of length 11", repeated(11, 269))
}

// forLists goes through every list of up to most numbers from low to high.
func forLists(most, low, high int, do func([]int)) {
	var grow func([]int)
	grow = func(list []int) {
		do(list)
		if len(list) == most {
			return
		}
		for n := low; n <= high; n++ {
			grow(append(list, n))
		}
	}
	grow(make([]int, 0, most))
}

func TestP4AllShortSetsGoByTheWords(t *testing.T) {
	check := func(lengths []int) {
		got, e := floodgate.Codes(lengths)
		want := codesByWords(lengths)
		if !slices.Equal(got, want) || (e == api.OK) != (want != nil) || e != api.OK && e != api.ErrCodes {
			t.Fatalf("Codes(%v) = %v, %d, want %v", lengths, got, e, want)
		}
	}
	forLists(4, -1, 12, check)
	forLists(8, 0, 4, check)
}

func TestP4GrownSetsGoByTheWords(t *testing.T) {
	// A complete set stays complete when a code gives way to two that are longer by one.
	for stride := 1; stride < 40; stride++ {
		lengths := []int{1, 1}
		for at := 0; len(lengths) < 269; at = (at + stride) % len(lengths) {
			if lengths[at] > 0 && lengths[at] < api.MaxBits {
				lengths[at]++
				lengths = append(lengths, lengths[at])
			} else {
				lengths = append(lengths, 0)
			}
			wantCodes(t, lengths, codesByWords(lengths))
		}
	}
}

func TestP1CodesEndsAtAnyList(t *testing.T) {
	wantNoCodes(t, "a million lengths of 1", repeated(1, 1000000))
	wantNoCodes(t, "a million lengths of 0", repeated(0, 1000000))
	wantNoCodes(t, "a million of the greatest", repeated(math.MaxInt, 1000000))
	wantNoCodes(t, "269 of the greatest", repeated(math.MaxInt, 269))
	wantNoCodes(t, "269 of the smallest", repeated(math.MinInt, 269))
	wantNoCodes(t, "the greatest and the smallest", []int{math.MaxInt, math.MinInt})
}

func TestP2CodesLeavesItsListAlone(t *testing.T) {
	for _, lengths := range [][]int{{1, 2, 2}, {0, 1}, {2, 2}, {1, 1, 99}, {}, fixedSet(), repeated(8, 270)} {
		spare := []int{7, -7, math.MaxInt, 1, 1}
		before := slices.Concat(lengths, spare)
		handed := slices.Clone(before)
		floodgate.Codes(handed[:len(lengths)])
		if !slices.Equal(handed, before) {
			t.Errorf("a list of %d lengths or its spare room was written into: %v", len(lengths), handed)
		}
	}
}

// scribble writes over a list and its spare room.
func scribble(list []int) {
	list = list[:cap(list)]
	for i := range list {
		list[i] = -99
	}
}

func TestP2CodesGivesNewMemory(t *testing.T) {
	for _, lengths := range [][]int{{1, 2, 2}, {0, 1}, {1}, fixedSet()} {
		want := codesByWords(lengths)
		handed := slices.Grow(slices.Clone(lengths), 300)
		first, _ := floodgate.Codes(handed)
		second, _ := floodgate.Codes(handed)
		scribble(first)
		if !slices.Equal(second, want) || !slices.Equal(handed, lengths) {
			t.Errorf("writing into an answer is seen elsewhere: %v, %v", second, handed)
		}
		scribble(handed)
		if !slices.Equal(second, want) {
			t.Errorf("writing into what was handed in is seen in an answer: %v", second)
		}
		wantCodes(t, lengths, want)
	}
}
