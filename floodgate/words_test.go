package floodgate_test

import (
	"sync"

	"floodgate/api"
)

// fixedTexts are the codes of both sets of a fixed block.
var fixedTexts = sync.OnceValues(func() (literals, distances map[string]int) {
	return codeTexts(fixedSet()), codeTexts(repeated(4, 16))
})

// reader goes through a whole stream by the document's words; what is wrong it throws as an api.Errno.
type reader struct {
	s   string
	at  int    // in bits
	out []byte // of this member
}

// meanByWords tells what a stream means, worked out with texts of bits.
func meanByWords(format int, s string) (out string, e api.Errno) {
	r := &reader{s: s}
	defer func() {
		if thrown := recover(); thrown != nil {
			out, e = "", thrown.(api.Errno)
		}
	}()
	for {
		out += r.member(format)
		if r.at == 8*len(s) {
			return out, api.OK
		}
		mustBe(format == api.Long, api.ErrTrail)
	}
}

func mustBe(holds bool, e api.Errno) {
	if !holds {
		panic(e)
	}
}

// member tells what comes out of a member.
func (r *reader) member(format int) string {
	r.out = nil
	switch format {
	case api.Short:
		mustBe(r.number(8) == 's', api.ErrHead)
		mustBe(r.number(8) == 1, api.ErrHead)
	case api.Long:
		r.longHead()
	}
	for !r.block() {
	}
	r.skip()
	if format != api.Raw {
		mustBe(r.text(4) == sumBytes(string(r.out)), api.ErrSum)
	}
	if format == api.Long {
		mustBe(r.text(2) == sizeBytes(string(r.out)), api.ErrSize)
	}
	return string(r.out)
}

func (r *reader) longHead() {
	from := r.at / 8
	mustBe(r.number(8) == 'L', api.ErrHead)
	mustBe(r.number(8) == 2, api.ErrHead)
	marks := r.number(8)
	mustBe(marks < 8, api.ErrHead)
	texts := []int{0, 1, 1, 2}[marks%4]
	for range texts {
		for r.number(8) != 0 {
		}
	}
	if marks >= 4 {
		ahead := r.s[from : r.at/8]
		mustBe(r.text(1) == checkByte(ahead), api.ErrHead)
	}
}

// text reads so many bytes.
func (r *reader) text(bytes int) string {
	text := make([]byte, bytes)
	for i := range text {
		text[i] = byte(r.number(8))
	}
	return string(text)
}

func (r *reader) bit() int {
	if r.at == 8*len(r.s) {
		panic(api.ErrShort)
	}
	bit := int(r.s[r.at/8]) >> (r.at % 8) & 1
	r.at++
	return bit
}

func (r *reader) number(bits int) int {
	n := 0
	for i := range bits {
		n += r.bit() << i
	}
	return n
}

func (r *reader) skip() {
	for r.at%8 != 0 {
		if r.bit() == 1 {
			panic(api.ErrPad)
		}
	}
}

// block tells whether it was the last one.
func (r *reader) block() bool {
	isLast := r.bit() == 1
	switch r.number(2) {
	case 0:
		r.plain()
	case 1:
		r.content(fixedTexts())
	case 2:
		r.own()
	case 3:
		panic(api.ErrBlock)
	}
	return isLast
}

func (r *reader) plain() {
	r.skip()
	n, inverse := r.number(16), r.number(16)
	if inverse != 65535-n {
		panic(api.ErrLength)
	}
	for range n {
		r.out = append(r.out, byte(r.number(8)))
	}
}

// codeTexts leads from the codes, as texts of bits, to their symbols.
func codeTexts(lengths []int) map[string]int {
	texts := map[string]int{}
	for symbol, n := range codesByWords(lengths) {
		if n >= 0 {
			texts[code(n, lengths[symbol])] = symbol
		}
	}
	return texts
}

func (r *reader) symbol(texts map[string]int) int {
	if len(texts) == 0 {
		panic(api.ErrDist)
	}
	read := ""
	for {
		read += code(r.bit(), 1)
		if symbol, ok := texts[read]; ok {
			return symbol
		}
		if len(texts) == 1 {
			panic(api.ErrDist)
		}
	}
}

func must(holds bool) {
	mustBe(holds, api.ErrCodes)
}

// isComplete tells apart the set with a single code, which has codes too.
func isComplete(lengths []int) bool {
	return hasCodesByWords(lengths) && countNonZero(lengths) > 1
}

func countNonZero(lengths []int) int {
	count := 0
	for _, length := range lengths {
		if length != 0 {
			count++
		}
	}
	return count
}

func (r *reader) own() {
	hl := r.number(4)
	must(hl <= 12)
	hd := r.number(4)
	hc := r.number(4)
	must(hc <= 11)
	helpers := repeated(0, 15)
	for _, symbol := range helperOrder()[:4+hc] {
		helpers[symbol] = r.number(3)
	}
	must(isComplete(helpers))
	whole := r.row(codeTexts(helpers), 257+hl+1+hd)
	literals, distances := whole[:257+hl], whole[257+hl:]
	must(literals[256] != 0 && isComplete(literals))
	must(hasCodesByWords(distances) || countNonZero(distances) == 0)
	r.content(codeTexts(literals), codeTexts(distances))
}

func (r *reader) row(helpers map[string]int, total int) []int {
	var told []int
	for len(told) < total {
		symbol := r.symbol(helpers)
		length, times := symbol, 1
		switch symbol {
		case 12:
			times = 3 + r.number(2)
			must(len(told) > 0)
			length = told[len(told)-1]
		case 13:
			length, times = 0, 3+r.number(3)
		case 14:
			length, times = 0, 11+r.number(6)
		}
		told = append(told, repeated(length, times)...)
		must(len(told) <= total)
	}
	return told
}

func (r *reader) content(literals, distances map[string]int) {
	for {
		symbol := r.symbol(literals)
		switch {
		case symbol < 256:
			r.out = append(r.out, byte(symbol))
			continue
		case symbol == 256:
			return
		}
		length := r.between(lengthBounds()[symbol-257])
		distance := r.between(distanceBounds()[r.symbol(distances)])
		if distance > len(r.out) {
			panic(api.ErrDist)
		}
		for range length {
			r.out = append(r.out, r.out[len(r.out)-distance])
		}
	}
}

// between reads the number behind a symbol that stands for more than one.
func (r *reader) between(b bounds) int {
	return b.least + r.number(len(b.behind(b.least)))
}
