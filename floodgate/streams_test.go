package floodgate_test

import (
	"slices"
	"strings"
	"testing"

	"floodgate/api"
	"floodgate/floodgate"
)

// Streams are written as texts of bits, the first one first. Blanks are left out, and a bar fills the byte up with 0.

// pack makes bytes of bits.
func pack(bits ...string) string {
	var packed []byte
	count := 0
	for _, c := range strings.Join(bits, "") {
		switch c {
		case ' ':
			continue
		case '|':
			count = 8 * len(packed)
			continue
		}
		if count%8 == 0 {
			packed = append(packed, 0)
		}
		if c == '1' {
			packed[count/8] |= 1 << (count % 8)
		}
		count++
	}
	return string(packed)
}

// unusedBits tells how many bits of the last byte the bits leave over.
func unusedBits(bits string) int {
	count := 0
	for _, c := range bits {
		switch c {
		case '|':
			count = 0
		case '0', '1':
			count++
		}
	}
	return (8 - count%8) % 8
}

// number is a number of so many bits, the lowest first.
func number(n, bits int) string {
	text := make([]byte, bits)
	for i := range text {
		text[i] = '0' + byte(n>>i&1)
	}
	return string(text)
}

// code is a code of so many bits, the highest first.
func code(n, bits int) string {
	text := make([]byte, bits)
	for i := range text {
		text[i] = '0' + byte(n>>(bits-1-i)&1)
	}
	return string(text)
}

func bitsOf(s string) string {
	var bits strings.Builder
	for i := range len(s) {
		bits.WriteString(number(int(s[i]), 8))
	}
	return bits.String()
}

// The first bit of a block.
const (
	more = "0"
	last = "1"
)

func plain(isLast, content string) string {
	return isLast + "00|" + number(len(content), 16) + number(65535-len(content), 16) + bitsOf(content)
}

// stop is the end of a fixed block.
const stop = "111110011"

func fixed(isLast string, content ...string) string {
	return isLast + "10" + strings.Join(content, "")
}

// fixedLiteral is the code of a symbol of the literal set in a fixed block.
func fixedLiteral(symbol int) string {
	if symbol < 243 {
		return code(symbol, 8)
	}
	return code(2*243+symbol-243, 9)
}

func fixedText(s string) string {
	var bits strings.Builder
	for i := range len(s) {
		bits.WriteString(fixedLiteral(int(s[i])))
	}
	return bits.String()
}

// bounds are the least and the greatest number that a symbol stands for; there are so many numbers as lie between.
type bounds struct{ least, greatest int }

func lengthBounds() []bounds {
	return []bounds{{3, 3}, {4, 4}, {5, 5}, {6, 6}, {7, 8}, {9, 10}, {11, 14}, {15, 18}, {19, 26}, {27, 34}, {35, 50}, {51, 66}}
}

func distanceBounds() []bounds {
	return []bounds{{1, 1}, {2, 2}, {3, 3}, {4, 4}, {5, 6}, {7, 8}, {9, 12}, {13, 16}, {17, 24}, {25, 32}, {33, 48}, {49, 64}, {65, 96}, {97, 128}, {129, 192}, {193, 256}}
}

// behind is the number that is read behind a symbol.
func (b bounds) behind(n int) string {
	bits := 0
	for b.least+1<<bits <= b.greatest {
		bits++
	}
	return number(n-b.least, bits)
}

// symbolOf tells the symbol whose bounds a length or a distance lies in.
func symbolOf(all []bounds, n int) (int, bounds) {
	for symbol, b := range all {
		if n >= b.least && n <= b.greatest {
			return symbol, b
		}
	}
	panic("no such length or distance")
}

func fixedLength(length int) string {
	symbol, b := symbolOf(lengthBounds(), length)
	return fixedLiteral(257+symbol) + b.behind(length)
}

func fixedDistance(distance int) string {
	symbol, b := symbolOf(distanceBounds(), distance)
	return code(symbol, 4) + b.behind(distance)
}

func fixedCopy(length, distance int) string {
	return fixedLength(length) + fixedDistance(distance)
}

// helperStep is a helper symbol of a row, and the number behind it.
type helperStep struct{ symbol, number int }

// all15 is a helper set in which every symbol has a code.
func all15() []int {
	return append([]int{3}, repeated(4, 14)...)
}

// ownSizes is the begin of an own block, up to the lengths of the helper set.
func ownSizes(isLast string, hl, hd, hc int) string {
	return isLast + "01" + number(hl, 4) + number(hd, 4) + number(hc, 4)
}

func helperOrder() []int {
	return []int{13, 14, 12, 0, 7, 8, 6, 9, 5, 10, 4, 11, 3, 2, 1}
}

// helperSet is the lengths of so many helper symbols, in their order.
func helperSet(lengths []int, told int) string {
	var bits strings.Builder
	for _, symbol := range helperOrder()[:told] {
		bits.WriteString(number(lengths[symbol], 3))
	}
	return bits.String()
}

// row is the helper symbols by which lengths are told.
func row(helpers []int, steps ...helperStep) string {
	var bits strings.Builder
	for _, step := range steps {
		bits.WriteString(codeOf(helpers, step.symbol))
		bits.WriteString(number(step.number, map[int]int{12: 2, 13: 3, 14: 6}[step.symbol]))
	}
	return bits.String()
}

// singly tells lengths one by one.
func singly(lengths ...int) []helperStep {
	var steps []helperStep
	for _, length := range lengths {
		steps = append(steps, helperStep{length, 0})
	}
	return steps
}

// zeros tells the length 0 so often, by the helper symbols 14, 13 and 0.
func zeros(count int) []helperStep {
	var steps []helperStep
	for ; count >= 11; count -= min(count, 74) {
		steps = append(steps, helperStep{14, min(count, 74) - 11})
	}
	if count >= 3 {
		return append(steps, helperStep{13, count - 3})
	}
	return append(steps, singly(repeated(0, count)...)...)
}

// aAndEnd are the lengths of 257 symbols of which only 97 and 256 have codes.
func aAndEnd() []helperStep {
	return slices.Concat(zeros(97), singly(1), zeros(158), singly(1))
}

// codeOf is the code of a symbol of a set.
func codeOf(lengths []int, symbol int) string {
	return code(codesByWords(lengths)[symbol], lengths[symbol])
}

// ownHead is the begin of an own block whose sets are so great and told by these steps.
func ownHead(isLast string, literals, distances int, steps ...helperStep) string {
	return ownSizes(isLast, literals-257, distances-1, 11) + helperSet(all15(), 15) + row(all15(), steps...)
}

// ownSets is the begin of an own block, up to the content, whose sets have these lengths.
func ownSets(isLast string, literals, distances []int) string {
	return ownHead(isLast, len(literals), len(distances), append(singly(literals...), singly(distances...)...)...)
}

// lengths is those of so many symbols, of which only these have codes.
func lengths(symbols int, given map[int]int) []int {
	all := repeated(0, symbols)
	for symbol, length := range given {
		all[symbol] = length
	}
	return all
}

// wantAnswer asks Mean, and the machine beneath it, with other pieces and drains.
func wantAnswer(t *testing.T, name, s, want string, e api.Errno) {
	t.Helper()
	wantAnswerIn(t, api.Raw, name, s, want, e)
}

func wantAnswerIn(t *testing.T, format int, name, s, want string, e api.Errno) {
	t.Helper()
	if got, err := floodgate.Mean(format, s); got != want || err != e {
		t.Fatalf("%s: Mean(%d, %.60q) = %.60q, %d, want %.60q, %d", name, format, s, got, err, want, e)
	}
	for _, c := range []struct{ size, most int }{{1, 64}, {2, 63}, {7, 1}, {len(s) + 1, 5}} {
		if got, _, err := floodgate.MeanByPieces(format, s, c.size, c.most); got != want || err != e {
			t.Fatalf("%s: %.60q in pieces of %d, drained by %d: %.60q, %d, want %.60q, %d", name, s, c.size, c.most, got, err, want, e)
		}
	}
}

// wantMean checks a stream that is just right, and its neighbours: each shorter one, longer ones, those with a bit behind the last block.
func wantMean(t *testing.T, name, bits, want string) {
	t.Helper()
	s := pack(bits)
	wantAnswer(t, name, s, want, api.OK)
	wantAllShort(t, name, s)
	for _, tail := range []string{"\x00", "\x01", "\xff", "\x00\x00", s} {
		wantAnswer(t, name+", and more", s+tail, "", api.ErrTrail)
		wantTaken(t, name+", and more", s+tail, len(s)+1)
	}
	for i := range unusedBits(bits) {
		marred := []byte(s)
		marred[len(s)-1] |= 128 >> i
		wantAnswer(t, name+", and a bit", string(marred), "", api.ErrPad)
	}
}

// wantAllShort checks that a stream is still waited for at each of its bytes: at some of them, if there are many.
func wantAllShort(t *testing.T, name, s string) {
	t.Helper()
	wantAllShortIn(t, api.Raw, name, s)
}

func wantAllShortIn(t *testing.T, format int, name, s string) {
	t.Helper()
	for end := 0; end < len(s); end++ {
		if end > 300 && end < len(s)-20 {
			end += len(s) / 50
		}
		if got, err := floodgate.Mean(format, s[:min(end, len(s)-1)]); got != "" || err != api.ErrShort {
			t.Fatalf("%s: Mean(%d, %.60q), which ends at %d: %.60q, %d, want ErrShort", name, format, s, end, got, err)
		}
	}
}

// shifted is blocks that mean nothing and leave so many bits of a byte over, so that what follows lies askew.
func shifted(left int) string {
	for distances := 1; ; distances++ {
		steps := slices.Concat(aAndEnd(), singly(repeated(0, distances)...))
		bits := ownHead(more, 257, distances, steps...) + "1"
		if unusedBits(bits) == left {
			return bits
		}
	}
}

// wantRefused checks a stream that must be refused with the last of these bits, whatever is behind it, and not sooner. As it is checked at every place of a byte, the bit is pinned down.
func wantRefused(t *testing.T, name, bits string, e api.Errno) {
	t.Helper()
	wantRefusedHere(t, name, bits, e)
	for left := range 8 {
		wantRefusedHere(t, name+", shifted", shifted(left)+bits, e)
	}
}

func wantRefusedHere(t *testing.T, name, bits string, e api.Errno) {
	t.Helper()
	s := pack(bits)
	wantAllShort(t, name, s)
	filled := []byte(s)
	mask := 0xff << (8 - unusedBits(bits))
	filled[len(s)-1] |= byte(mask)
	for _, whole := range []string{s, string(filled)} {
		wantAnswer(t, name, whole, "", e)
		for _, tail := range []string{"\x00", "\xff", "\x00\x00\x00\x00\x00\x00\x00\x00"} {
			wantTaken(t, name, whole+tail, len(s))
		}
	}
}

// wantTaken checks that a stream is refused before more bytes than these are taken.
func wantTaken(t *testing.T, name, s string, want int) {
	t.Helper()
	wantTakenIn(t, api.Raw, name, s, want)
}

func wantTakenIn(t *testing.T, format int, name, s string, want int) {
	t.Helper()
	for _, size := range []int{1, 2, len(s)} {
		if _, taken, _ := floodgate.MeanByPieces(format, s, size, 64); taken != want {
			t.Fatalf("%s: %.60q in pieces of %d: %d bytes taken, want %d", name, s, size, taken, want)
		}
	}
}
