package floodgate_test

import (
	"math"
	"strconv"
	"strings"
	"testing"

	"floodgate/api"
	"floodgate/floodgate"
)

// rising is so many bytes, each one more than the one before.
func rising(count int) string {
	bytes := make([]byte, count)
	for i := range bytes {
		bytes[i] = byte(i)
	}
	return string(bytes)
}

// withCopy is a text and behind it what a copy puts out.
func withCopy(s string, length, distance int) string {
	bytes := []byte(s)
	for range length {
		bytes = append(bytes, bytes[len(bytes)-distance])
	}
	return string(bytes)
}

func TestP5NoSuchFormat(t *testing.T) {
	for _, format := range []int{-1, 3, 4, 256, 1 << 32, -1 << 32, math.MaxInt, math.MinInt} {
		for _, s := range []string{"", "\x01\x02\x00\xfd\xffhi", "\x07", "s\x01", "L\x02\x00"} {
			if got, e := floodgate.Mean(format, s); got != "" || e != api.ErrConfig {
				t.Errorf("Mean(%d, %q) = %q, %d, want ErrConfig", format, s, got, e)
			}
		}
	}
}

func TestP5TheDocumentsStreams(t *testing.T) {
	wantAnswer(t, "hi", "\x01\x02\x00\xfd\xffhi", "hi", api.OK)
	wantAnswer(t, "hi with a bit", "\x09\x02\x00\xfd\xffhi", "", api.ErrPad)
	wantAnswer(t, "hi with another length", "\x01\x02\x00\xfc\xffhi", "", api.ErrLength)
	wantAnswer(t, "h", "\x01\x02\x00\xfd\xffh", "", api.ErrShort)
	wantAnswer(t, "hi and one more", "\x01\x02\x00\xfd\xffhi!", "", api.ErrTrail)
	wantAnswer(t, "a", "\x33\xfc\x0c", "a", api.OK)
	wantAnswer(t, "a with a bit", "\x33\xfc\x1c", "", api.ErrPad)
}

func TestP5NothingIsShort(t *testing.T) {
	wantAnswer(t, "the empty stream", "", "", api.ErrShort)
}

func TestP5BlockOfNoKind(t *testing.T) {
	wantRefused(t, "the last block", last+"11", api.ErrBlock)
	wantRefused(t, "a block that is not the last", more+"11", api.ErrBlock)
	// An empty fixed block has 12 bits, so the kind comes to lie across two bytes.
	empty := fixed(more, stop)
	for blocks := 1; blocks <= 4; blocks++ {
		wantRefused(t, strconv.Itoa(blocks)+" blocks ahead", strings.Repeat(empty, blocks)+more+"11", api.ErrBlock)
	}
	wantRefused(t, "the kind across two bytes", fixed(more, fixedLiteral(250), fixedLiteral(251), stop)+"0 11", api.ErrBlock)
}

func TestP5PlainBlocks(t *testing.T) {
	for _, content := range []string{"", "x", "hi", "\x00", "\xff\xff", rising(63), rising(64), rising(65), rising(256), rising(1000), strings.Repeat("z", 65535)} {
		wantMean(t, strconv.Itoa(len(content))+" bytes", plain(last, content), content)
	}
	wantMean(t, "several", plain(more, "ab")+plain(more, "")+plain(more, "c")+plain(last, "def"), "abcdef")
	wantMean(t, "nothing, several times", plain(more, "")+plain(more, "")+plain(last, ""), "")
	wantMean(t, "the greatest, twice", plain(more, strings.Repeat("y", 65535))+plain(last, strings.Repeat("z", 65535)), strings.Repeat("y", 65535)+strings.Repeat("z", 65535))
}

func TestP5PlainBlocksHaveBytesOfAnyKind(t *testing.T) {
	for b := range 256 {
		content := string([]byte{byte(b)})
		wantMean(t, "one byte", plain(last, content), content)
	}
}

func TestP5PlainLengthIsToldTwice(t *testing.T) {
	for _, n := range []int{0, 1, 2, 255, 256, 4660, 32768, 65535} {
		for flipped := range 32 {
			inverse := (65535 - n) << 16
			sizes := (inverse | n) ^ 1<<flipped
			wantRefusedHere(t, strconv.Itoa(n)+" with a bit flipped", last+"00|"+number(sizes, 32), api.ErrLength)
		}
		if inverse := 65535 - n; inverse != n {
			wantRefused(t, strconv.Itoa(n)+" twice", last+"00|"+number(n, 16)+number(n, 16), api.ErrLength)
		}
	}
}

// ahead is fixed blocks whose bits leave so many of a byte over for the next block.
func ahead(left int) (bits, out string) {
	for unusedBits(fixed(more, fixedText(out), stop)) != left {
		out += "\xff"
	}
	return fixed(more, fixedText(out), stop), out
}

func TestP5BitsAheadOfPlainBlocks(t *testing.T) {
	for left := range 8 {
		bits, out := ahead(left)
		name := strconv.Itoa(left) + " bits left of the byte"
		wantMean(t, name, bits+plain(last, "xyz"), out+"xyz")
		skipped := unusedBits(bits + "100")
		for i := range skipped {
			marred := bits + "100" + strings.Repeat("0", i) + "1" + strings.Repeat("0", skipped-1-i)
			wantAnswer(t, name+", one is 1", pack(marred, number(1, 16), number(65534, 16), bitsOf("x")), "", api.ErrPad)
			wantAnswer(t, name+", one is 1, and no more comes", pack(marred), "", api.ErrPad)
			wantTaken(t, name+", one is 1", pack(marred, number(0, 32)), len(pack(marred)))
			wantAllShort(t, name+", one is 1", pack(marred))
		}
	}
}

func TestP5PadAheadOfLength(t *testing.T) {
	wantAnswer(t, "both are wrong", pack("100 00001", number(0, 32)), "", api.ErrPad)
	wantAnswer(t, "a block of no kind, whatever the bits", "\x0f", "", api.ErrBlock)
}

func TestP5FixedLiterals(t *testing.T) {
	wantMean(t, "no literal", fixed(last, stop), "")
	for symbol := range 256 {
		want := string([]byte{byte(symbol)})
		wantMean(t, "the literal "+strconv.Itoa(symbol), fixed(last, fixedLiteral(symbol), stop), want)
	}
	wantMean(t, "all literals", fixed(last, fixedText(rising(256)), stop), rising(256))
	wantMean(t, "the border of the lengths", fixed(last, fixedText("\xf2\xf3\xf2\xf3"), stop), "\xf2\xf3\xf2\xf3")
}

func TestP5FixedBlocksFollowOneAnother(t *testing.T) {
	wantMean(t, "two", fixed(more, fixedText("a"), stop)+fixed(last, fixedText("b"), stop), "ab")
	wantMean(t, "five of nothing", strings.Repeat(fixed(more, stop), 4)+fixed(last, stop), "")
	wantMean(t, "plain ones between", plain(more, "a")+fixed(more, fixedText("b"), stop)+plain(more, "c")+fixed(last, fixedText("d"), stop), "abcd")
}

func TestP5EachLengthAndDistance(t *testing.T) {
	// Behind 300 bytes every distance leads somewhere, and to a byte that no other distance leads to.
	filled := rising(300)
	ahead := plain(more, filled)
	nextLength := 3
	for symbol, b := range lengthBounds() {
		if b.least != nextLength {
			t.Fatalf("the length symbol %d begins at %d", symbol, b.least)
		}
		for length := b.least; length <= b.greatest; length++ {
			bits := fixed(last, fixedLiteral(257+symbol), b.behind(length), fixedDistance(256), stop)
			wantMean(t, "the length "+strconv.Itoa(length), ahead+bits, withCopy(filled, length, 256))
		}
		nextLength = b.greatest + 1
	}
	nextDistance := 1
	for symbol, b := range distanceBounds() {
		if b.least != nextDistance {
			t.Fatalf("the distance symbol %d begins at %d", symbol, b.least)
		}
		for distance := b.least; distance <= b.greatest; distance++ {
			bits := fixed(last, fixedLength(3), code(symbol, 4), b.behind(distance), stop)
			s := pack(ahead, bits)
			wantAnswer(t, "the distance "+strconv.Itoa(distance), s, withCopy(filled, 3, distance), api.OK)
		}
		nextDistance = b.greatest + 1
	}
	if nextLength != 67 || nextDistance != 257 {
		t.Errorf("the lengths end at %d, the distances at %d", nextLength, nextDistance)
	}
}

func TestP5DistanceBeyondWhatCameOut(t *testing.T) {
	for distance := 1; distance <= 256; distance++ {
		name := "the distance " + strconv.Itoa(distance)
		copied := fixedCopy(3, distance)
		for _, came := range []int{0, distance / 2, distance - 1} {
			wantAnswer(t, name, pack(plain(more, rising(came)), fixed(last, copied)), "", api.ErrDist)
		}
		wantAnswer(t, name, pack(plain(more, rising(distance)), fixed(last, copied, stop)), withCopy(rising(distance), 3, distance), api.OK)
	}
	for _, b := range distanceBounds() {
		wantRefused(t, "nothing came out", fixed(last, fixedCopy(3, b.least)), api.ErrDist)
		wantRefused(t, "one less came out", fixed(more, fixedText(rising(b.greatest-1)), fixedCopy(66, b.greatest)), api.ErrDist)
	}
}

func TestP5DistanceWithinLiteralsAndCopies(t *testing.T) {
	wantMean(t, "to the first literal", fixed(last, fixedText("abc"), fixedCopy(4, 3), stop), "abcabca")
	wantRefused(t, "one farther", fixed(last, fixedText("abc"), fixedCopy(4, 4)), api.ErrDist)
	// What a copy puts out counts as well.
	wantMean(t, "into a copy", fixed(last, fixedText("abc"), fixedCopy(4, 3), fixedCopy(3, 7), stop), "abcabcaabc")
	wantRefused(t, "one farther than a copy", fixed(last, fixedText("abc"), fixedCopy(4, 3), fixedCopy(3, 8)), api.ErrDist)
}

func TestP5CopyThatReachesIntoItself(t *testing.T) {
	for distance := 1; distance <= 70; distance++ {
		for _, length := range []int{3, 4, 6, 7, 34, 50, 65, 66} {
			s := pack(plain(more, rising(distance)), fixed(last, fixedCopy(length, distance), stop))
			wantAnswer(t, "a copy", s, withCopy(rising(distance), length, distance), api.OK)
		}
	}
	wantMean(t, "one byte, often", fixed(last, fixedText("a"), fixedCopy(66, 1), stop), strings.Repeat("a", 67))
}

func TestP5CopyOverTheBeginOfABlock(t *testing.T) {
	copied := fixed(last, fixedCopy(5, 4), stop)
	wantMean(t, "from a plain block", plain(more, "abcd")+copied, "abcdabcda")
	wantMean(t, "from a fixed block", fixed(more, fixedText("abcd"), stop)+copied, "abcdabcda")
	wantMean(t, "from two blocks", plain(more, "ab")+fixed(more, fixedText("cd"), stop)+copied, "abcdabcda")
	wantMean(t, "with literals of its own", plain(more, "abc")+fixed(last, fixedText("d"), fixedCopy(5, 4), stop), "abcdabcda")
	own := ownSets(more, lengths(257, map[int]int{'a': 2, 'b': 2, 'c': 2, 256: 2}), []int{0}) + "00 01 10 11"
	wantMean(t, "from an own block", own+fixed(last, fixedCopy(5, 3), stop), "abcabcab")
}

func TestP5WindowGoesRound(t *testing.T) {
	// Many copies from the farthest and from near, over plain bytes and literals: the window is passed many times.
	bits, want := plain(more, rising(256)), rising(256)
	for i := range 60 {
		length, distance := 3+i, 256-i%7
		bits += fixed(more, fixedCopy(length, distance), fixedText("!"), stop)
		want = withCopy(want, length, distance) + "!"
	}
	wantMean(t, "many copies", bits+plain(last, "end"), want+"end")
}

func TestP5FixedBlocksThatEndEarly(t *testing.T) {
	wantAllShort(t, "a block without its end", pack(fixed(last, fixedText("abcd"), fixedCopy(66, 3), fixedText("efgh"))))
	wantAllShort(t, "a block that is not the last", pack(fixed(more, fixedText("abcd"), stop))+"?")
	if _, e := floodgate.Mean(api.Raw, pack(plain(more, "ab"))); e != api.ErrShort {
		t.Errorf("a plain block that is not the last: %d, want ErrShort", e)
	}
}
