package floodgate_test

import (
	"math"
	"sync"

	"floodgate/api"
)

// fixedTexts are the codes of both sets of a fixed block.
var fixedTexts = sync.OnceValues(func() (literals, distances map[string]int) {
	return codeTexts(fixedSet()), codeTexts(repeated(4, 16))
})

// reader goes through a whole stream by the document's words; what is wrong it throws as an api.Errno, and api.OK at the end. Of the configuration it looks at the format, the members and the heads.
type reader struct {
	c       api.Config
	s       string
	at      int    // in bits
	out     []byte // of this member
	members int
	head    int  // bytes of this member's head
	fresh   bool // no byte of the member is taken
	ended   bool // the stream may end here
	events  []event
}

type eventKind int

const (
	taking eventKind = iota
	putting
	failing
)

// event is what a gate does, or finds wrong, on its way through a stream. The last one of a stream that is not wrong is the taking of a byte that is not there.
type event struct {
	kind   eventKind
	ended  bool // the stream may end ahead of the byte that is taken
	begins bool // a member begins with this byte
	put    byte
	e      api.Errno
}

// meanByWords tells what a stream means, worked out with texts of bits.
func meanByWords(format int, s string) (string, api.Errno) {
	events, e := eventsByWords(api.Config{Format: format, Members: math.MaxInt, Head: math.MaxInt}, s)
	if e != api.OK {
		return "", e
	}
	return putOut(events), api.OK
}

// putOut is the bytes that are put out by some events.
func putOut(events []event) string {
	var out []byte
	for _, v := range events {
		if v.kind == putting {
			out = append(out, v.put)
		}
	}
	return string(out)
}

func eventsByWords(c api.Config, s string) (events []event, e api.Errno) {
	r := &reader{c: c, s: s}
	defer func() {
		e = recover().(api.Errno)
		if e != api.OK && e != api.ErrShort {
			r.events = append(r.events, event{kind: failing, e: e})
		}
		events = r.events
	}()
	for {
		r.member()
		r.ended = true
		if c.Format != api.Long {
			r.number(8)
			panic(api.ErrTrail)
		}
	}
}

func mustBe(holds bool, e api.Errno) {
	if !holds {
		panic(e)
	}
}

func (r *reader) member() {
	r.out, r.head, r.fresh = nil, 0, true
	switch r.c.Format {
	case api.Short:
		mustBe(r.headByte() == 's', api.ErrHead)
		mustBe(r.headByte() == 1, api.ErrHead)
	case api.Long:
		r.longHead()
	}
	for !r.block() {
	}
	r.skip()
	if r.c.Format != api.Raw {
		mustBe(r.text(4) == sumBytes(string(r.out)), api.ErrSum)
	}
	if r.c.Format == api.Long {
		mustBe(r.text(2) == sizeBytes(string(r.out)), api.ErrSize)
	}
}

func (r *reader) headByte() int {
	b := r.number(8)
	r.head++
	mustBe(r.head <= r.c.Head, api.ErrLong)
	return b
}

func (r *reader) longHead() {
	from := r.at / 8
	mustBe(r.headByte() == 'L', api.ErrHead)
	mustBe(r.headByte() == 2, api.ErrHead)
	marks := r.headByte()
	mustBe(marks < 8, api.ErrHead)
	texts := []int{0, 1, 1, 2}[marks%4]
	for range texts {
		for r.headByte() != 0 {
		}
	}
	if marks >= 4 {
		ahead := r.s[from : r.at/8]
		mustBe(r.headByte() == int(checkByte(ahead)[0]), api.ErrHead)
	}
}

// text reads so many bytes.
func (r *reader) text(bytes int) string {
	text := make([]byte, bytes)
	for i := range text {
		text[i] = byte(r.number(8))
	}
	return string(text)
}

func (r *reader) bit() int {
	if r.at%8 == 0 {
		r.take()
	}
	bit := int(r.s[r.at/8]) >> (r.at % 8) & 1
	r.at++
	return bit
}

// take is called ahead of the first bit of each byte.
func (r *reader) take() {
	begins := r.fresh && r.members < r.c.Members
	r.events = append(r.events, event{kind: taking, ended: r.ended, begins: begins})
	if r.at == 8*len(r.s) {
		mustBe(r.ended, api.ErrShort)
		panic(api.OK)
	}
	if begins {
		r.members++
	}
	mustBe(begins || !r.fresh, api.ErrMembers)
	r.fresh, r.ended = false, false
}

func (r *reader) put(b byte) {
	r.events = append(r.events, event{kind: putting, put: b})
	r.out = append(r.out, b)
}

func (r *reader) number(bits int) int {
	n := 0
	for i := range bits {
		n += r.bit() << i
	}
	return n
}

func (r *reader) skip() {
	for r.at%8 != 0 {
		if r.bit() == 1 {
			panic(api.ErrPad)
		}
	}
}

// block tells whether it was the last one.
func (r *reader) block() bool {
	isLast := r.bit() == 1
	switch r.number(2) {
	case 0:
		r.plain()
	case 1:
		r.content(fixedTexts())
	case 2:
		r.own()
	case 3:
		panic(api.ErrBlock)
	}
	return isLast
}

func (r *reader) plain() {
	r.skip()
	n, inverse := r.number(16), r.number(16)
	if inverse != 65535-n {
		panic(api.ErrLength)
	}
	for range n {
		r.put(byte(r.number(8)))
	}
}

// codeTexts leads from the codes, as texts of bits, to their symbols.
func codeTexts(lengths []int) map[string]int {
	texts := map[string]int{}
	for symbol, n := range codesByWords(lengths) {
		if n >= 0 {
			texts[code(n, lengths[symbol])] = symbol
		}
	}
	return texts
}

func (r *reader) symbol(texts map[string]int) int {
	if len(texts) == 0 {
		panic(api.ErrDist)
	}
	read := ""
	for {
		read += code(r.bit(), 1)
		if symbol, ok := texts[read]; ok {
			return symbol
		}
		if len(texts) == 1 {
			panic(api.ErrDist)
		}
	}
}

func must(holds bool) {
	mustBe(holds, api.ErrCodes)
}

// isComplete tells apart the set with a single code, which has codes too.
func isComplete(lengths []int) bool {
	return hasCodesByWords(lengths) && countNonZero(lengths) > 1
}

func countNonZero(lengths []int) int {
	count := 0
	for _, length := range lengths {
		if length != 0 {
			count++
		}
	}
	return count
}

func (r *reader) own() {
	hl := r.number(4)
	must(hl <= 12)
	hd := r.number(4)
	hc := r.number(4)
	must(hc <= 11)
	helpers := repeated(0, 15)
	for _, symbol := range helperOrder()[:4+hc] {
		helpers[symbol] = r.number(3)
	}
	must(isComplete(helpers))
	whole := r.row(codeTexts(helpers), 257+hl+1+hd)
	literals, distances := whole[:257+hl], whole[257+hl:]
	must(literals[256] != 0 && isComplete(literals))
	must(hasCodesByWords(distances) || countNonZero(distances) == 0)
	r.content(codeTexts(literals), codeTexts(distances))
}

func (r *reader) row(helpers map[string]int, total int) []int {
	var told []int
	for len(told) < total {
		symbol := r.symbol(helpers)
		length, times := symbol, 1
		switch symbol {
		case 12:
			times = 3 + r.number(2)
			must(len(told) > 0)
			length = told[len(told)-1]
		case 13:
			length, times = 0, 3+r.number(3)
		case 14:
			length, times = 0, 11+r.number(6)
		}
		told = append(told, repeated(length, times)...)
		must(len(told) <= total)
	}
	return told
}

func (r *reader) content(literals, distances map[string]int) {
	for {
		symbol := r.symbol(literals)
		switch {
		case symbol < 256:
			r.put(byte(symbol))
			continue
		case symbol == 256:
			return
		}
		length := r.between(lengthBounds()[symbol-257])
		distance := r.between(distanceBounds()[r.symbol(distances)])
		if distance > len(r.out) {
			panic(api.ErrDist)
		}
		for range length {
			r.put(r.out[len(r.out)-distance])
		}
	}
}

// between reads the number behind a symbol that stands for more than one.
func (r *reader) between(b bounds) int {
	return b.least + r.number(len(b.behind(b.least)))
}
