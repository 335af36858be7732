package floodgate_test

import (
	"slices"
	"strconv"
	"strings"
	"testing"

	"floodgate/api"
	"floodgate/floodgate"
)

// sumBytes are those in which the sum of a text is told.
func sumBytes(s string) string {
	n := sumAtOnce(s)
	return string([]byte{byte(n / (1 << 24)), byte(n / (1 << 16)), byte(n / (1 << 8)), byte(n)})
}

// sizeBytes are those in which the size of a text is told.
func sizeBytes(s string) string {
	return string([]byte{byte(len(s)), byte(len(s) / 256)})
}

func checkByte(ahead string) string {
	n := 0
	for i := range len(ahead) {
		n += int(ahead[i])
	}
	return string([]byte{byte(n % 256)})
}

// shortOf is the Short stream of blocks, in bytes, out of which this text comes.
func shortOf(blocks, out string) string {
	return "s\x01" + blocks + sumBytes(out)
}

// longHead is a head with these marks; a text without its mark is left out.
func longHead(marks int, name, note string) string {
	head := "L\x02" + string([]byte{byte(marks)})
	if marks&1 != 0 {
		head += name + "\x00"
	}
	if marks&2 != 0 {
		head += note + "\x00"
	}
	if marks&4 != 0 {
		head += checkByte(head)
	}
	return head
}

func longOf(head, blocks, out string) string {
	return head + blocks + sumBytes(out) + sizeBytes(out)
}

// memberOf is a Long member of a plain block, with the least head.
func memberOf(out string) string {
	return longOf(longHead(0, "", ""), pack(plain(last, out)), out)
}

// flipped is a text with one of its bits turned round.
func flipped(s string, bit int) string {
	bytes := []byte(s)
	bytes[bit/8] ^= 1 << (bit % 8)
	return string(bytes)
}

// wantRefusedAt checks a stream that is refused with its last byte, not sooner, and whatever is behind it. It may not be at its end sooner.
func wantRefusedAt(t *testing.T, format int, name, s string, e api.Errno) {
	t.Helper()
	wantAllShortIn(t, format, name, s)
	wantRefusedBy(t, format, name, s, e)
}

// wantRefusedBy leaves open whether the stream is at its end sooner.
func wantRefusedBy(t *testing.T, format int, name, s string, e api.Errno) {
	t.Helper()
	for _, tail := range []string{"", "\x00", "\xff", "s\x01", "L\x02\x00", strings.Repeat("\x00", 20)} {
		wantAnswerIn(t, format, name, s+tail, "", e)
		wantTakenIn(t, format, name, s+tail, len(s))
	}
}

// wantShort checks a Short stream with a right end, and its neighbours.
func wantShort(t *testing.T, name, blocks, out string) {
	t.Helper()
	s := shortOf(blocks, out)
	wantAnswerIn(t, api.Short, name, s, out, api.OK)
	wantAllShortIn(t, api.Short, name, s)
	for _, tail := range []string{"\x00", "\x01", "\xff", "s", s} {
		wantAnswerIn(t, api.Short, name+", and more", s+tail, "", api.ErrTrail)
		wantTakenIn(t, api.Short, name+", and more", s+tail, len(s)+1)
	}
	for bit := 8 * (len(s) - 4); bit < 8*len(s); bit++ {
		wantRefusedBy(t, api.Short, name+", another sum", flipped(s, bit), api.ErrSum)
	}
}

// wantLong checks a Long stream of one member, and its neighbours.
func wantLong(t *testing.T, name, head, blocks, out string) {
	t.Helper()
	s := longOf(head, blocks, out)
	wantAnswerIn(t, api.Long, name, s, out, api.OK)
	wantAllShortIn(t, api.Long, name, s)
	wantAnswerIn(t, api.Long, name+", twice", s+s, out+out, api.OK)
	for _, tail := range []string{"\x00", "l", "s\x01", "\xff"} {
		wantAnswerIn(t, api.Long, name+", and no head", s+tail, "", api.ErrHead)
		wantTakenIn(t, api.Long, name+", and no head", s+tail, len(s)+1)
	}
	sum := s[:len(s)-2]
	for bit := 8 * (len(sum) - 4); bit < 8*len(sum); bit++ {
		wantRefusedBy(t, api.Long, name+", another sum", flipped(sum, bit), api.ErrSum)
	}
	for bit := 8 * len(sum); bit < 8*len(s); bit++ {
		wantRefusedBy(t, api.Long, name+", another size", flipped(s, bit), api.ErrSize)
	}
}

const hi = "\x01\x02\x00\xfd\xffhi"

func TestP5TheDocumentsFrames(t *testing.T) {
	wantAnswerIn(t, api.Short, "hi", "s\x01"+hi+"\x01\x3b\x00\xd2", "hi", api.OK)
	once := "L\x02\x00" + hi + "\x01\x3b\x00\xd2\x02\x00"
	wantAnswerIn(t, api.Long, "hi", once, "hi", api.OK)
	wantAnswerIn(t, api.Long, "hi, twice", once+once, "hihi", api.OK)
	wantAnswerIn(t, api.Long, "a name and a check", "L\x02\x05x\x00\xcb"+once[3:], "hi", api.OK)
}

func TestP5NothingIsShortInAnyFormat(t *testing.T) {
	wantAnswerIn(t, api.Short, "the empty stream", "", "", api.ErrShort)
	wantAnswerIn(t, api.Long, "the empty stream", "", "", api.ErrShort)
}

func TestP5FixedBytesOfHeads(t *testing.T) {
	for _, c := range []struct {
		format int
		head   string
	}{{api.Short, "s\x01"}, {api.Long, "L\x02"}} {
		for b := range 256 {
			other := string([]byte{byte(b)})
			if other != c.head[:1] {
				wantRefusedAt(t, c.format, "the first byte "+strconv.Itoa(b), other, api.ErrHead)
			}
			if other != c.head[1:] {
				wantRefusedAt(t, c.format, "the second byte "+strconv.Itoa(b), c.head[:1]+other, api.ErrHead)
			}
		}
	}
}

func TestP5FormatsAreToldApart(t *testing.T) {
	raw, short, long := hi, shortOf(hi, "hi"), memberOf("hi")
	wantAnswerIn(t, api.Short, "Raw for Short", raw, "", api.ErrHead)
	wantAnswerIn(t, api.Long, "Raw for Long", raw, "", api.ErrHead)
	wantAnswerIn(t, api.Long, "Short for Long", short, "", api.ErrHead)
	wantAnswerIn(t, api.Short, "Long for Short", long, "", api.ErrHead)
	// By its first bits s begins a fixed block that is the last one, L an own block.
	wantWords(t, api.Raw, short)
	wantWords(t, api.Raw, long)
}

func TestP5ShortStreams(t *testing.T) {
	for _, c := range []struct{ name, bits, out string }{
		{"nothing, plain", plain(last, ""), ""},
		{"nothing, fixed", fixed(last, stop), ""},
		{"hi", plain(last, "hi"), "hi"},
		{"some zeros", plain(last, "\x00\x00\x00"), "\x00\x00\x00"},
		{"several blocks", plain(more, "ab") + fixed(more, fixedText("c"), stop) + plain(last, "de"), "abcde"},
		{"a copy", fixed(last, fixedText("abc"), fixedCopy(66, 3), stop), withCopy("abc", 66, 3)},
		{"an own block", ownHead(last, 257, 1, append(aAndEnd(), singly(0)...)...) + "0001", "aaa"},
		{"as many as there is room for", plain(last, rising(64)), rising(64)},
		{"one more", plain(last, rising(65)), rising(65)},
		{"a great x", plain(last, strings.Repeat("\xff", 1000)), strings.Repeat("\xff", 1000)},
	} {
		wantShort(t, c.name, pack(c.bits), c.out)
	}
}

func TestP5SumOfAGreatStream(t *testing.T) {
	block, out := strings.Repeat("\xfe", 65535), strings.Repeat("\xfe", 3*65535)
	blocks := pack(plain(more, block), plain(more, block), plain(last, block))
	wantAnswerIn(t, api.Short, "Short", shortOf(blocks, out), out, api.OK)
	wantAnswerIn(t, api.Short, "Short of one byte less", "s\x01"+blocks+sumBytes(out[1:]), "", api.ErrSum)
	wantAnswerIn(t, api.Long, "Long", longOf(longHead(0, "", ""), blocks, out), out, api.OK)
}

func TestP5SumIsToldHighestFirst(t *testing.T) {
	for _, format := range []int{api.Short, api.Long} {
		head := map[int]string{api.Short: "s\x01", api.Long: "L\x02\x00"}[format]
		for _, sum := range []string{"\xd2\x00\x3b\x01", "\x00\xd2\x01\x3b", "\x3b\x01\xd2\x00", "\x00\x00\x00\x00", "\x00\x00\x00\x01", "\xff\xff\xff\xff"} {
			wantRefusedAt(t, format, "another sum", head+hi+sum, api.ErrSum)
		}
	}
}

func TestP5PadAheadOfSum(t *testing.T) {
	empty := fixed(last, stop)
	for left := range unusedBits(empty) {
		marred := flipped(pack(empty), 15-left)
		for _, end := range []string{"", "\x00\x00\x00\x01", "\xff\xff\xff\xff", "\x00\x00\x00\x01\x00\x00"} {
			wantAnswerIn(t, api.Short, "a bit", "s\x01"+marred+end, "", api.ErrPad)
			wantTakenIn(t, api.Short, "a bit", "s\x01"+marred+end, 4)
			wantAnswerIn(t, api.Long, "a bit", "L\x02\x00"+marred+end, "", api.ErrPad)
			wantTakenIn(t, api.Long, "a bit", "L\x02\x00"+marred+end, 5)
		}
	}
}

// badBlocks are blocks that are refused with their last bit.
func badBlocks() []struct {
	bits string
	e    api.Errno
} {
	return []struct {
		bits string
		e    api.Errno
	}{
		{last + "11", api.ErrBlock},
		{fixed(more, fixedText("abc"), stop) + more + "11", api.ErrBlock},
		{last + "00 00001", api.ErrPad},
		{last + "00|" + number(2, 16) + number(2, 16), api.ErrLength},
		{last + "01" + number(13, 4), api.ErrCodes},
		{plain(more, "abc") + last + "01" + number(15, 4), api.ErrCodes},
		{fixed(last, fixedCopy(3, 1)), api.ErrDist},
		{fixed(last, fixedText("abcd"), fixedCopy(3, 5)), api.ErrDist},
	}
}

func TestP5BlocksAreRefusedInAnyFormat(t *testing.T) {
	for _, c := range badBlocks() {
		name := "the error " + strconv.Itoa(int(c.e))
		wantRefusedAt(t, api.Short, name, "s\x01"+pack(c.bits), c.e)
		for marks := range 8 {
			wantRefusedAt(t, api.Long, name, longHead(marks, "ab", "c")+pack(c.bits), c.e)
		}
		for _, ahead := range []string{"", "x", rising(300)} {
			wantRefusedBy(t, api.Long, name+", in the second member", memberOf(ahead)+"L\x02\x00"+pack(c.bits), c.e)
		}
	}
}

func TestP5LongHeads(t *testing.T) {
	texts := []string{"", "x", "\x01", "\xff\xff", "a name", rising(256)[1:], strings.Repeat("\xff", 1000)}
	for marks := range 8 {
		for _, name := range texts {
			for _, note := range texts {
				s := longOf(longHead(marks, name, note), hi, "hi")
				wantAnswerIn(t, api.Long, "the marks "+strconv.Itoa(marks), s, "hi", api.OK)
			}
		}
		wantLong(t, "the marks "+strconv.Itoa(marks), longHead(marks, "name", "a note"), hi, "hi")
		wantLong(t, "no texts, the marks "+strconv.Itoa(marks), longHead(marks, "", ""), hi, "hi")
	}
}

func TestP5MarksThatMayNotBe(t *testing.T) {
	for marks := 8; marks < 256; marks++ {
		wantRefusedAt(t, api.Long, "the marks "+strconv.Itoa(marks), "L\x02"+string([]byte{byte(marks)}), api.ErrHead)
	}
}

func TestP5CheckOfAHead(t *testing.T) {
	for marks := 4; marks < 8; marks++ {
		for _, text := range []string{"", "x", strings.Repeat("\xff", 77), rising(256)[1:]} {
			head := longHead(marks, text, text+"!")
			for bit := 8 * (len(head) - 1); bit < 8*len(head); bit++ {
				wantRefusedAt(t, api.Long, "another check", flipped(head, bit), api.ErrHead)
			}
		}
	}
	// Every byte of the head counts, the marks and the ends of the texts too.
	for _, check := range []int{'L' + 2, 'L' + 2 + 7 + 'a', 'L' + 2 + 7 + 'b', 'a' + 'b', 7 + 'a' + 'b', 0} {
		head := "L\x02\x07a\x00b\x00" + string([]byte{byte(check)})
		wantRefusedAt(t, api.Long, "a part of the check", head, api.ErrHead)
	}
	wantAnswerIn(t, api.Long, "the check", longOf("L\x02\x07a\x00b\x00"+string([]byte{byte(('L' + 2 + 7 + 'a' + 'b') % 256)}), hi, "hi"), "hi", api.OK)
}

func TestP5TextsOfAHeadEndAtTheirFirst0(t *testing.T) {
	// A second 0 behind a name is a plain block that is not the last one.
	empty := "\x00\x00\x00\xff\xff" + pack(plain(last, ""))
	wantAnswerIn(t, api.Long, "a name", longOf("L\x02\x01x\x00", empty, ""), "", api.OK)
	wantAnswerIn(t, api.Long, "a note", longOf("L\x02\x02x\x00", empty, ""), "", api.OK)
	wantAnswerIn(t, api.Long, "both", longOf("L\x02\x03x\x00\x00", empty, ""), "", api.OK)
	wantAnswerIn(t, api.Long, "no text", longOf("L\x02\x00", empty, ""), "", api.OK)
	wantAnswerIn(t, api.Long, "a name without end", "L\x02\x01"+strings.Repeat("x", 100000), "", api.ErrShort)
	wantAnswerIn(t, api.Long, "a note without end", "L\x02\x03\x00"+strings.Repeat("x", 100000), "", api.ErrShort)
}

func TestP5SizeOfAMember(t *testing.T) {
	for _, size := range []int{0, 1, 255, 256, 257, 65535, 65536, 65537, 131071, 131072, 131073} {
		out, bits := strings.Repeat("q", size), ""
		for left := size; left >= 0; left -= 65535 {
			isLast := more
			if left < 65535 {
				isLast = last
			}
			bits += plain(isLast, out[:min(left, 65535)])
		}
		s := longOf("L\x02\x00", pack(bits), out)
		wantAnswerIn(t, api.Long, strconv.Itoa(size)+" bytes", s, out, api.OK)
		for _, other := range []int{size + 1, size + 255, size + 256, size + 65535, 65536*65536 - size} {
			if other%65536 == size%65536 {
				continue
			}
			end := string([]byte{byte(other), byte(other / 256)})
			wantAnswerIn(t, api.Long, "another size", s[:len(s)-2]+end, "", api.ErrSize)
		}
	}
	wantRefusedAt(t, api.Long, "the highest first", "L\x02\x00"+hi+sumBytes("hi")+"\x00\x02", api.ErrSize)
}

func TestP5SumAheadOfSize(t *testing.T) {
	wantRefusedAt(t, api.Long, "both are wrong", "L\x02\x00"+hi+"\x01\x3b\x00\xd3", api.ErrSum)
}

func TestP5ManyMembers(t *testing.T) {
	s, out := "", ""
	for i := range 150 {
		content := rising(3 * i)
		s += longOf(longHead(i%8, "name", "note"), pack(fixed(last, fixedText(content), stop)), content)
		out += content
		if got, e := floodgate.Mean(api.Long, s); got != out || e != api.OK {
			t.Fatalf("%d members: %d bytes, %d, want %d", i+1, len(got), e, len(out))
		}
	}
	wantAnswerIn(t, api.Long, "many members", s, out, api.OK)
}

func TestP5MembersHaveNothingOfOneAnother(t *testing.T) {
	whole := longOf(longHead(7, "abc", "def"), pack(plain(last, "first")), "first")
	for marks := range 8 {
		second := longOf(longHead(marks, "", "gh"), hi, "hi")
		wantAnswerIn(t, api.Long, "two members", whole+second, "firsthi", api.OK)
		wantAnswerIn(t, api.Long, "two members", second+whole, "hifirst", api.OK)
		for end := len(whole) + 1; end < len(whole)+len(second); end++ {
			wantAnswerIn(t, api.Long, "the second one ends early", (whole + second)[:end], "", api.ErrShort)
		}
	}
	both := "firsthi"
	wantRefusedBy(t, api.Long, "the sum of both", whole+"L\x02\x00"+hi+sumBytes(both), api.ErrSum)
	wantRefusedBy(t, api.Long, "the size of both", whole+"L\x02\x00"+hi+sumBytes("hi")+sizeBytes(both), api.ErrSize)
	head := "L\x02\x04"
	wantRefusedBy(t, api.Long, "the check of both heads", whole+head+checkByte(longHead(7, "abc", "def")+head), api.ErrHead)
	wantRefusedBy(t, api.Long, "marks that may not be", whole+"L\x02\x08", api.ErrHead)
	wantRefusedBy(t, api.Long, "another second byte", whole+"L\x01", api.ErrHead)
}

func TestP5CopiesStayWithinTheirMember(t *testing.T) {
	for _, ahead := range []string{"x", rising(255), rising(256), rising(300), rising(1000)} {
		for _, own := range []int{0, 1, 2, 64, 255} {
			content := strings.Repeat("y", own)
			blocks := plain(more, content)
			refused := memberOf(ahead) + "L\x02\x00" + pack(blocks, fixed(last, fixedCopy(3, own+1)))
			wantRefusedBy(t, api.Long, "one too far", refused, api.ErrDist)
			if own == 0 {
				continue
			}
			out := withCopy(content, 3, own)
			s := memberOf(ahead) + longOf("L\x02\x00", pack(blocks, fixed(last, fixedCopy(3, own), stop)), out)
			wantAnswerIn(t, api.Long, "just so far", s, ahead+out, api.OK)
		}
	}
}

func TestP5LongStreamsEndWhereAMemberDoes(t *testing.T) {
	members := []string{memberOf(""), memberOf("ab"), longOf(longHead(7, "n", "m"), pack(fixed(last, fixedText("abc"), stop)), "abc"), memberOf(rising(70))}
	outs := []string{"", "ab", "abc", rising(70)}
	s := strings.Join(members, "")
	ends := map[int]string{}
	for i := range members {
		ends[len(strings.Join(members[:i+1], ""))] = strings.Join(outs[:i+1], "")
	}
	for end := range len(s) + 1 {
		if out, ok := ends[end]; ok {
			wantAnswerIn(t, api.Long, "the end of a member", s[:end], out, api.OK)
			continue
		}
		wantAnswerIn(t, api.Long, "no end of a member", s[:end], "", api.ErrShort)
	}
}

// randomFrame makes a Short or Long stream.
func randomFrame(format int, seed uint64) (m *maker, s, out string) {
	m, bits := randomStream(seed)
	if format == api.Short {
		return m, shortOf(pack(bits), m.out), m.out
	}
	for i := range 1 + m.IntN(3) {
		if i > 0 {
			_, bits = m.next()
		}
		name, note := strings.Repeat("x", m.IntN(5)), strings.Repeat("\xf7", m.IntN(200))
		s += longOf(longHead(m.IntN(8), name, note), pack(bits), m.out)
		out += m.out
	}
	return m, s, out
}

func TestP5MadeFrames(t *testing.T) {
	for seed := range uint64(60) {
		for _, format := range []int{api.Short, api.Long} {
			_, s, out := randomFrame(format, seed)
			wantAnswerIn(t, format, "a made stream", s, out, api.OK)
			if got, e := meanByWords(format, s); got != out || e != api.OK {
				t.Fatalf("the words do not hold of %q: %q, %d", s, got, e)
			}
		}
	}
}

func TestP5MarredFrames(t *testing.T) {
	seen := map[int]map[api.Errno]int{api.Short: {}, api.Long: {}}
	for seed := range uint64(25) {
		for _, format := range []int{api.Short, api.Long} {
			m, s, _ := randomFrame(format, seed)
			for range 30 {
				marred := flipped(s, m.IntN(8*len(s)))
				seen[format][wantWords(t, format, marred)]++
				seen[format][wantWords(t, format, marred[:m.IntN(len(s))])]++
			}
			// The head and the end are where formats differ.
			for bit := range 8 * min(len(s), 12) {
				seen[format][wantWords(t, format, flipped(s, bit))]++
				seen[format][wantWords(t, format, flipped(s, 8*len(s)-1-bit))]++
			}
			seen[format][wantWords(t, format, s+"\x00")]++
		}
	}
	common := []api.Errno{api.ErrHead, api.ErrBlock, api.ErrPad, api.ErrLength, api.ErrCodes, api.ErrDist, api.ErrSum, api.ErrShort}
	for format, own := range map[int]api.Errno{api.Short: api.ErrTrail, api.Long: api.ErrSize} {
		for e := api.ErrConfig; e <= api.ErrRatio; e++ {
			if named := e == own || slices.Contains(common, e); named != (seen[format][e] > 0) {
				t.Errorf("the format %d: the error %d was seen %d times", format, e, seen[format][e])
			}
		}
	}
}

func TestP5MarredFramesInPieces(t *testing.T) {
	for seed := range uint64(30) {
		for _, format := range []int{api.Short, api.Long} {
			m, s, _ := randomFrame(format, seed)
			for range 10 {
				marred := flipped(s, m.IntN(8*len(s)))
				want, e := meanByWords(format, marred)
				wantAnswerIn(t, format, "a marred stream", marred, want, e)
				_, whole, _ := floodgate.MeanByPieces(format, marred, len(s), 64)
				wantTakenIn(t, format, "a marred stream", marred, whole)
			}
		}
	}
}

func TestP1MeanEndsAtAnyFrame(t *testing.T) {
	const million = 1000000
	empty := longOf("L\x02\x00", pack(fixed(last, stop)), "")
	for _, c := range []struct {
		name   string
		format int
		s      string
		e      api.Errno
	}{
		{"many of 0", api.Short, strings.Repeat("\x00", million), api.ErrHead},
		{"many of s", api.Short, strings.Repeat("s", million), api.ErrHead},
		{"many heads", api.Short, strings.Repeat("s\x01", million), api.ErrShort},
		{"many of L", api.Long, strings.Repeat("L", million), api.ErrHead},
		{"many Short streams", api.Short, strings.Repeat(shortOf(hi, "hi"), million/10), api.ErrTrail},
		{"many empty members", api.Long, strings.Repeat(empty, million/10), api.OK},
		{"many empty members and no end", api.Long, strings.Repeat(empty, million/10) + "L", api.ErrShort},
		{"a name without end", api.Long, "L\x02\x01" + strings.Repeat("L", 10*million), api.ErrShort},
		{"a name of many bytes", api.Long, longOf(longHead(7, strings.Repeat("n", million), strings.Repeat("m", million)), pack(fixed(last, stop)), ""), api.OK},
	} {
		if got, e := floodgate.Mean(c.format, c.s); got != "" || e != c.e {
			t.Errorf("%s: %.40q, %d, want %d", c.name, got, e, c.e)
		}
	}
}
