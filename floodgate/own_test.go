package floodgate_test

import (
	"slices"
	"strconv"
	"strings"
	"testing"

	"floodgate/api"
)

// smallSet is a literal set with two bytes and three lengths.
func smallSet() []int {
	return lengths(269, map[int]int{'a': 2, 'b': 2, 256: 2, 257: 3, 261: 4, 268: 4})
}

func inSet(set []int, symbols ...int) string {
	var bits strings.Builder
	for _, symbol := range symbols {
		bits.WriteString(codeOf(set, symbol))
	}
	return bits.String()
}

func TestP5OwnBlockWithDistances(t *testing.T) {
	literals, distances := smallSet(), lengths(16, map[int]int{0: 1, 1: 2, 4: 3, 15: 3})
	head := ownSets(last, literals, distances)
	for _, c := range []struct{ name, content, want string }{
		{"nothing", inSet(literals, 256), ""},
		{"literals", inSet(literals, 'a', 'b', 'b', 256), "abb"},
		{"a length without number", inSet(literals, 'a', 'b', 257) + codeOf(distances, 1) + inSet(literals, 256), "ababa"},
		{"a length with its number", inSet(literals, 'a', 261) + "1" + codeOf(distances, 0) + inSet(literals, 256), "aaaaaaaaa"},
		{"the longest", inSet(literals, 'a', 268) + "1111" + codeOf(distances, 0) + inSet(literals, 256), strings.Repeat("a", 67)},
		{"a distance with its number", inSet(literals, 'a', 'b', 'b', 'a', 'b', 'b', 257) + codeOf(distances, 4) + "1" + inSet(literals, 256), "abbabbabb"},
	} {
		wantMean(t, c.name, head+c.content, c.want)
	}
	wantRefused(t, "too far", head+inSet(literals, 'a', 257)+codeOf(distances, 1), api.ErrDist)
	wantRefused(t, "much too far", head+inSet(literals, 'a', 257)+codeOf(distances, 15)+"000000", api.ErrDist)
}

func TestP5OwnBlockWithASingleDistance(t *testing.T) {
	literals := smallSet()
	for symbol, b := range distanceBounds() {
		for count := symbol + 1; count <= 16; count++ {
			distances := lengths(count, map[int]int{symbol: 1})
			head := plain(more, rising(256)) + ownSets(last, literals, distances) + inSet(literals, 257)
			want := withCopy(rising(256), 3, b.least)
			if s := pack(head, "0", b.behind(b.least), inSet(literals, 256)); count < 16 {
				wantAnswer(t, "a single distance", s, want, api.OK)
				wantAnswer(t, "the other bit", pack(head, "1", b.behind(b.least)), "", api.ErrDist)
				continue
			}
			wantMean(t, "a single distance", head+"0"+b.behind(b.least)+inSet(literals, 256), want)
			wantRefused(t, "the other bit", head+"1", api.ErrDist)
		}
	}
}

func TestP5OwnBlockWithoutDistances(t *testing.T) {
	literals := smallSet()
	for _, count := range []int{1, 2, 16} {
		head := ownSets(last, literals, repeated(0, count)) + inSet(literals, 'a', 'b')
		wantMean(t, "no length", head+inSet(literals, 256), "ab")
		wantRefused(t, "a length without number", head+inSet(literals, 257), api.ErrDist)
		for _, number := range []string{"0", "1"} {
			wantRefused(t, "a length with its number", head+inSet(literals, 261)+number, api.ErrDist)
		}
		for _, number := range []string{"0000", "1010", "1111"} {
			wantRefused(t, "the longest length", head+inSet(literals, 268)+number, api.ErrDist)
		}
	}
}

func TestP5OwnSetsOfEachSize(t *testing.T) {
	for hl := range 13 {
		for hd := range 16 {
			symbols := map[int]int{'x': 1, 256: 2, 256 + hl: 2}
			if hl == 0 {
				symbols = map[int]int{'x': 1, 256: 1}
			}
			literals, distances := lengths(257+hl, symbols), lengths(1+hd, map[int]int{hd: 1})
			s := pack(ownSets(last, literals, distances), inSet(literals, 'x', 'x', 256))
			wantAnswer(t, strconv.Itoa(hl)+" and "+strconv.Itoa(hd), s, "xx", api.OK)
			wantAllShort(t, strconv.Itoa(hl)+" and "+strconv.Itoa(hd), s)
		}
	}
}

func TestP5OwnCodesOfEachLength(t *testing.T) {
	ladder := map[int]int{256: 11, 267: 11}
	text, want := "", ""
	for length := 1; length <= 10; length++ {
		ladder[20*length] = length
	}
	literals := lengths(269, ladder)
	for length := 1; length <= 10; length++ {
		text += inSet(literals, 20*length)
		want += string([]byte{byte(20 * length)})
	}
	text += inSet(literals, 267) + "1000" + "0" + inSet(literals, 256)
	wantMean(t, "a ladder", ownSets(last, literals, []int{1})+text, withCopy(want, 36, 1))
	dense := lengths(269, map[int]int{256: 1})
	for symbol := range 256 {
		dense[symbol] = 9
	}
	wantMean(t, "all bytes", ownSets(last, dense, []int{0})+inSet(dense, 0, 255, 'x', 128, 256), "\x00\xffx\x80")
}

func TestP5OwnBlocksFollowOneAnother(t *testing.T) {
	first, second := lengths(257, map[int]int{'a': 1, 256: 1}), lengths(258, map[int]int{'b': 2, 'c': 2, 256: 2, 257: 2})
	begin := ownSets(more, first, []int{0}) + inSet(first, 'a', 'a', 256)
	end := ownSets(last, second, []int{0, 1}) + inSet(second, 'b', 'c', 257) + "0" + inSet(second, 256)
	wantMean(t, "two", begin+end, "aabcbcb")
	wantMean(t, "a fixed one between", begin+fixed(more, fixedText("z"), stop)+end, "aazbcbcb")
	wantMean(t, "fixed, own, fixed", fixed(more, fixedText("z"), stop)+begin+fixed(last, fixedCopy(3, 3), stop), "zaazaa")
	wantMean(t, "a plain one between", begin+plain(more, "-")+end, "aa-bcbcb")
}

func TestP5RunsOfARow(t *testing.T) {
	wantMean(t, "runs", ownHead(last, 257, 1, append(aAndEnd(), singly(0)...)...)+"0001", "aaa")
	for extra := range 4 {
		// The first 63 bytes and the end have codes of 6 bits.
		run := append(singly(6), helperStep{12, extra})
		steps := slices.Concat(run, singly(repeated(6, 63-4-extra)...), zeros(256-63), singly(6, 0))
		wantMean(t, "12 with "+strconv.Itoa(extra), ownHead(last, 257, 1, steps...)+code(62, 6)+code(3+extra, 6)+code(63, 6), "\x3e"+string([]byte{byte(3 + extra)}))
	}
	for extra := range 8 {
		steps := slices.Concat([]helperStep{{13, extra}}, singly(1), zeros(256-4-extra), singly(1, 0))
		wantMean(t, "13 with "+strconv.Itoa(extra), ownHead(last, 257, 1, steps...)+"01", string([]byte{byte(3 + extra)}))
	}
	for extra := range 64 {
		steps := slices.Concat([]helperStep{{14, extra}}, singly(1), zeros(256-12-extra), singly(1, 0))
		wantMean(t, "14 with "+strconv.Itoa(extra), ownHead(last, 257, 1, steps...)+"01", string([]byte{byte(11 + extra)}))
	}
}

func TestP5RunsAcrossTheSets(t *testing.T) {
	// 254, 255 and 256 have codes of 2 bits, as has the a, and so have four distances: the run of 6 goes over the border.
	run := slices.Concat(zeros(97), singly(2), zeros(254-98), singly(2), []helperStep{{12, 3}})
	wantMean(t, "12", ownHead(last, 257, 4, run...)+"00 01 10 11", "a\xfe\xff")
	again := slices.Concat(zeros(97), singly(2), zeros(255-98), singly(2, 2), []helperStep{{12, 1}})
	wantRefused(t, "12, but the literal set lacks a code", ownHead(last, 257, 4, again...), api.ErrCodes)
	for hl := 1; hl <= 5; hl++ {
		steps := append(aAndEnd(), helperStep{13, hl + 5 - 3})
		wantMean(t, "13", ownHead(last, 257+hl, 5, steps...)+"0 1", "a")
	}
	for hl := 1; hl <= 12; hl++ {
		steps := append(aAndEnd(), helperStep{14, hl + 16 - 11})
		wantMean(t, "14", ownHead(last, 257+hl, 16, steps...)+"0 1", "a")
	}
}

func TestP5LengthBefore(t *testing.T) {
	// The length before is told by any helper symbol: 13, 12, 14 or a length.
	zeroAgain := slices.Concat([]helperStep{{13, 0}, {12, 3}, {12, 2}}, zeros(97-14), singly(1), []helperStep{{14, 63}, {12, 1}}, zeros(256-98-78), singly(1, 0))
	wantMean(t, "the length 0 before", ownHead(last, 257, 1, zeroAgain...)+"001", "aa")
	fives := slices.Concat(singly(5), []helperStep{{12, 3}, {12, 3}, {12, 3}, {12, 3}, {12, 3}}, zeros(256-31), singly(5, 0))
	wantMean(t, "the length 5 before", ownHead(last, 257, 1, fives...)+code(0, 5)+code(30, 5)+code(31, 5), "\x00\x1e")
	for extra := range 4 {
		wantRefused(t, "none before", ownHead(last, 257, 1, helperStep{12, extra}), api.ErrCodes)
	}
}

func TestP5RowThatGetsTooLong(t *testing.T) {
	// Behind the end's symbol 28 lengths of 0 are missing; a row that were cut off would be right.
	const missing = 28
	least := map[int]int{12: 3, 13: 3, 14: 11}
	numbers := map[int][]int{12: {0, 1, 2, 3}, 13: {0, 1, 2, 3, 4, 5, 6, 7}, 14: {0, 1, 5, 16}}
	for symbol, all := range numbers {
		for _, n := range all {
			name := strconv.Itoa(symbol) + " with " + strconv.Itoa(n)
			times := least[symbol] + n
			justRight := slices.Concat(aAndEnd(), zeros(missing-times), []helperStep{{symbol, n}})
			wantMean(t, name, ownHead(last, 269, 16, justRight...)+"0 1", "a")
			oneTooMany := slices.Concat(aAndEnd(), zeros(missing-times+1), []helperStep{{symbol, n}})
			wantRefused(t, name+", one too many", ownHead(last, 269, 16, oneTooMany...), api.ErrCodes)
			manyTooMany := slices.Concat(aAndEnd(), zeros(missing-1), []helperStep{{symbol, n}})
			wantRefused(t, name+", many too many", ownHead(last, 269, 16, manyTooMany...), api.ErrCodes)
		}
	}
	wantRefused(t, "14 with 63", ownHead(last, 269, 16, append(aAndEnd(), helperStep{14, 63})...), api.ErrCodes)
	wantRefused(t, "14 with 63 in the least row", ownHead(last, 257, 1, append(aAndEnd(), helperStep{14, 63})...), api.ErrCodes)
}

func TestP5SizesThatMayNotBe(t *testing.T) {
	for hl := 13; hl <= 15; hl++ {
		wantRefused(t, "hl "+strconv.Itoa(hl), last+"01"+number(hl, 4), api.ErrCodes)
	}
	for hc := 12; hc <= 15; hc++ {
		for _, hl := range []int{0, 12} {
			wantRefused(t, "hc "+strconv.Itoa(hc), ownSizes(more, hl, hc, hc), api.ErrCodes)
		}
	}
}

func TestP5HelperSetThatIsNotComplete(t *testing.T) {
	for told := 4; told <= 15; told++ {
		order := helperOrder()[:told]
		for _, given := range []map[int]int{
			{},
			{order[0]: 1},
			{order[told-1]: 1},
			{order[told-1]: 7},
			{order[0]: 2, order[told-1]: 2},
			{order[0]: 1, order[1]: 7},
			{order[0]: 1, order[1]: 1, order[told-1]: 1},
			{order[0]: 1, order[1]: 1, order[told-1]: 7},
		} {
			set := helperSet(lengths(15, given), told)
			wantRefused(t, strconv.Itoa(told)+" helpers", ownSizes(last, 0, 0, told-4)+set, api.ErrCodes)
		}
	}
}

// evenSet is a complete set of so many codes.
func evenSet(count int) []int {
	set := []int{1, 1}
	for at := 0; len(set) < count; at = (at + 1) % (count / 2) {
		set[at]++
		set = append(set, set[at])
	}
	return set
}

// stairs is a complete set of all lengths from the shortest to the longest.
func stairs(shortest, longest int) []int {
	set := repeated(shortest, 1<<shortest-1)
	for length := shortest + 1; length <= longest; length++ {
		set = append(set, length)
	}
	return append(set, longest)
}

func TestP5HelperSetsOfEachSize(t *testing.T) {
	for told := 5; told <= 15; told++ {
		order := helperOrder()[:told]
		helpers := repeated(0, 15)
		for i, length := range evenSet(told) {
			helpers[order[i]] = length
		}
		codes := stairs(slices.Min(order[4:]), slices.Max(order[4:]))
		literals := slices.Concat(codes[1:], repeated(0, 257-len(codes)), codes[:1])
		head := ownSizes(last, 0, 0, told-4) + helperSet(helpers, told)
		steps := slices.Concat(singly(codes[1:]...), zeros(257-len(codes)), singly(codes[0], 0))
		content := inSet(literals, 0, len(codes)-2, 256)
		wantMean(t, strconv.Itoa(told)+" helpers", head+row(helpers, steps...)+content, string([]byte{0, byte(len(codes) - 2)}))
	}
}

func TestP5HelpersThatAreNotTold(t *testing.T) {
	// With only 13, 14, 12 and 0 no symbol gets a code.
	helpers := lengths(15, map[int]int{13: 2, 14: 2, 12: 2, 0: 2})
	head := ownSizes(last, 0, 0, 0) + helperSet(helpers, 4)
	wantRefused(t, "lengths of 0 only", head+row(helpers, zeros(258)...), api.ErrCodes)
	wantRefused(t, "12 ahead of all", head+row(helpers, helperStep{12, 0}), api.ErrCodes)
}

func TestP5LiteralSetThatMayNotBe(t *testing.T) {
	for _, c := range []struct {
		name  string
		given map[int]int
	}{
		{"no code", map[int]int{}},
		{"complete, without the end", map[int]int{'a': 1, 'b': 1}},
		{"complete with a length, without the end", map[int]int{'a': 1, 257: 1}},
		{"complete with the code of 255 for the end's", map[int]int{'a': 1, 255: 1}},
		{"the end alone", map[int]int{256: 1}},
		{"the end alone, longer", map[int]int{256: 2}},
		{"too few", map[int]int{'a': 2, 256: 1}},
		{"too few by the least", map[int]int{'a': 1, 'b': 2, 'c': 3, 'd': 4, 'e': 5, 'f': 6, 'g': 7, 'h': 8, 'i': 9, 'j': 10, 256: 11}},
		{"too many", map[int]int{'a': 1, 'b': 1, 256: 1}},
		{"too many by the least", map[int]int{'a': 1, 256: 1, 268: 11}},
		{"too many from the first on", map[int]int{0: 1, 1: 1, 2: 1, 256: 11}},
	} {
		for _, distances := range [][]int{{0}, {1}, {1, 1}} {
			wantRefused(t, c.name, ownSets(last, lengths(269, c.given), distances), api.ErrCodes)
		}
	}
}

func TestP5DistanceSetThatMayNotBe(t *testing.T) {
	literals := lengths(257, map[int]int{'a': 1, 256: 1})
	sets := [][]int{{1, 2}, {2, 2}, {2, 2, 2}, {1, 1, 1}, {1, 1, 11}, {0, 1, 2, 11}, repeated(1, 16), repeated(11, 16), repeated(3, 7), repeated(4, 15)}
	for length := 2; length <= 11; length++ {
		sets = append(sets, []int{length}, lengths(16, map[int]int{15: length}))
	}
	for _, distances := range sets {
		wantRefused(t, "the distances", ownSets(last, literals, distances), api.ErrCodes)
	}
	for _, distances := range [][]int{{0}, {1}, {0, 1}, {1, 1}, {2, 1, 2}, repeated(3, 8), repeated(4, 16), repeated(0, 16), lengths(16, map[int]int{15: 1})} {
		wantMean(t, "the distances", ownSets(last, literals, distances)+"001", "aa")
	}
}
