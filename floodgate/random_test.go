package floodgate_test

import (
	"math/rand/v2"
	"slices"
	"strings"
	"testing"

	"floodgate/api"
	"floodgate/floodgate"
)

// wantWords holds Mean against the document's words.
func wantWords(t *testing.T, format int, s string) api.Errno {
	t.Helper()
	want, e := meanByWords(format, s)
	if got, err := floodgate.Mean(format, s); got != want || err != e {
		t.Fatalf("Mean(%d, %q) = %.60q, %d, want %.60q, %d", format, s, got, err, want, e)
	}
	return e
}

func TestP5AllShortStreams(t *testing.T) {
	for format := api.Raw; format <= api.Long; format++ {
		wantWords(t, format, "")
		for first := range 256 {
			wantWords(t, format, string([]byte{byte(first)}))
			for second := range 256 {
				wantWords(t, format, string([]byte{byte(first), byte(second)}))
			}
		}
	}
}

// maker makes streams that are just right; the same ones in every run.
type maker struct {
	*rand.Rand
	bits strings.Builder
	out  string
}

func (m *maker) write(bits ...string) {
	for _, b := range bits {
		m.bits.WriteString(b)
	}
}

func (m *maker) block(isLast string) {
	switch m.IntN(3) {
	case 0:
		content := rising(m.IntN(300))
		m.write(plain(isLast, content))
		m.out += content
	case 1:
		m.write(fixed(isLast))
		m.content(fixedSet(), repeated(4, 16))
	default:
		literals, distances := m.literalSet(), m.distanceSet()
		steps := m.steps(slices.Concat(literals, distances))
		m.write(ownHead(isLast, len(literals), len(distances), steps...))
		m.content(literals, distances)
	}
}

// grown is the lengths of a complete set of so many codes.
func (m *maker) grown(count int) []int {
	set := []int{1, 1}
	for len(set) < count {
		if at := m.IntN(len(set)); set[at] < api.MaxBits {
			set[at]++
			set = append(set, set[at])
		}
	}
	return set
}

// strewn gives lengths to some of so many symbols.
func (m *maker) strewn(given []int, symbols int) []int {
	all := repeated(0, symbols)
	for i, symbol := range m.Perm(symbols)[:len(given)] {
		all[symbol] = given[i]
	}
	return all
}

func (m *maker) literalSet() []int {
	symbols := 257 + m.IntN(13)
	set := m.strewn(m.grown(2+m.IntN(200)), symbols)
	if set[256] == 0 {
		at := slices.IndexFunc(set, func(length int) bool { return length > 0 })
		set[at], set[256] = 0, set[at]
	}
	return set
}

func (m *maker) distanceSet() []int {
	symbols := 1 + m.IntN(16)
	switch {
	case m.IntN(6) == 0:
		return repeated(0, symbols)
	case symbols == 1 || m.IntN(6) == 0:
		return m.strewn([]int{1}, symbols)
	}
	return m.strewn(m.grown(2+m.IntN(symbols-1)), symbols)
}

// steps tells a row by runs where it can.
func (m *maker) steps(whole []int) []helperStep {
	var steps []helperStep
	for at := 0; at < len(whole); {
		run := 1
		for at+run < len(whole) && whole[at+run] == whole[at] {
			run++
		}
		step, times := m.stepOf(whole, at, run)
		steps = append(steps, step)
		at += times
	}
	return steps
}

func (m *maker) stepOf(whole []int, at, run int) (helperStep, int) {
	switch {
	case at > 0 && whole[at] == whole[at-1] && run >= 3 && m.IntN(2) == 0:
		times := min(run, 3+m.IntN(4))
		return helperStep{12, times - 3}, times
	case whole[at] == 0 && run >= 11:
		times := min(run, 11+m.IntN(64))
		return helperStep{14, times - 11}, times
	case whole[at] == 0 && run >= 3:
		times := min(run, 3+m.IntN(8))
		return helperStep{13, times - 3}, times
	}
	return helperStep{whole[at], 0}, 1
}

// content is some symbols of a set, and the end.
func (m *maker) content(literals, distances []int) {
	var symbols []int
	for symbol, length := range literals {
		if length > 0 && symbol != 256 {
			symbols = append(symbols, symbol)
		}
	}
	for range m.IntN(40) {
		symbol := symbols[m.IntN(len(symbols))]
		if m.IntN(3) == 0 && symbols[len(symbols)-1] > 256 {
			symbol = symbols[len(symbols)-1-m.IntN(min(4, len(symbols)))]
		}
		m.symbol(literals, distances, symbol)
	}
	m.write(codeOf(literals, 256))
}

func (m *maker) symbol(literals, distances []int, symbol int) {
	if symbol < 256 {
		m.write(codeOf(literals, symbol))
		m.out += string([]byte{byte(symbol)})
		return
	}
	if to := m.IntN(len(distances)); distances[to] > 0 && distanceBounds()[to].least <= len(m.out) {
		l, d := lengthBounds()[symbol-257], distanceBounds()[to]
		length, distance := m.within(l), min(m.within(d), len(m.out))
		m.write(codeOf(literals, symbol), l.behind(length), codeOf(distances, to), d.behind(distance))
		m.out = withCopy(m.out, length, distance)
	}
}

func (m *maker) within(b bounds) int {
	return b.least + m.IntN(b.greatest-b.least+1)
}

// randomStream makes a stream, and tells what it means.
func randomStream(seed uint64) (*maker, string) {
	m := &maker{Rand: rand.New(rand.NewPCG(seed, 1))}
	return m.next()
}

// next makes another stream, which has nothing of the one before.
func (m *maker) next() (*maker, string) {
	m.out = ""
	m.bits.Reset()
	for range m.IntN(5) {
		m.block(more)
	}
	m.block(last)
	return m, m.bits.String()
}

func TestP5MadeStreams(t *testing.T) {
	for seed := range uint64(120) {
		m, bits := randomStream(seed)
		wantMean(t, "a made stream", bits, m.out)
		if got, e := meanByWords(api.Raw, pack(bits)); got != m.out || e != api.OK {
			t.Fatalf("the words do not hold of %q: %q, %d", bits, got, e)
		}
	}
}

func TestP5MarredStreams(t *testing.T) {
	var seen [api.ErrRatio + 1]int
	for seed := range uint64(80) {
		m, bits := randomStream(seed)
		s := pack(bits)
		for range 50 {
			marred := []byte(s)
			for range 1 + m.IntN(3) {
				marred[m.IntN(len(s))] ^= 1 << m.IntN(8)
			}
			seen[wantWords(t, api.Raw, string(marred))]++
			wantWords(t, api.Raw, string(marred[m.IntN(len(s)):]))
		}
		// The begin is where most goes wrong.
		for flipped := range min(8*len(s), 120) {
			marred := []byte(s)
			marred[flipped/8] ^= 1 << (flipped % 8)
			seen[wantWords(t, api.Raw, string(marred))]++
		}
	}
	for e, count := range seen {
		named := e == 0 || e >= int(api.ErrBlock) && e <= int(api.ErrDist) || e == int(api.ErrTrail) || e == int(api.ErrShort)
		if named != (count > 0) {
			t.Errorf("the error %d was seen %d times", e, count)
		}
	}
}

func TestP5MarredStreamsInPieces(t *testing.T) {
	for seed := range uint64(60) {
		m, bits := randomStream(seed)
		s := pack(bits)
		for range 10 {
			marred := []byte(s)
			marred[m.IntN(len(s))] ^= 1 << m.IntN(8)
			want, e := meanByWords(api.Raw, string(marred))
			wantAnswer(t, "a marred stream", string(marred), want, e)
			_, whole, _ := floodgate.MeanByPieces(api.Raw, string(marred), len(s), 64)
			wantTaken(t, "a marred stream", string(marred), whole)
		}
	}
}

func TestP1MeanEndsAtAnyText(t *testing.T) {
	const million = 1000000
	for _, c := range []struct {
		name, s string
		e       api.Errno
	}{
		{"many of 0", strings.Repeat("\x00", million), api.ErrLength},
		{"many of 255", strings.Repeat("\xff", million), api.ErrBlock},
		{"many empty plain blocks", strings.Repeat("\x00\x00\x00\xff\xff", million/5), api.ErrShort},
		{"many empty fixed blocks", strings.Repeat(pack(fixed(more, stop), fixed(more, stop)), million/3), api.ErrShort},
		{"many empty own blocks", strings.Repeat(pack(shifted(0)), million/20), api.ErrShort},
		{"a fixed block without end", pack(fixed(last)) + strings.Repeat("\x00", million), api.ErrShort},
		{"a plain block without end", pack(plain(last, "x"))[:5] + strings.Repeat("x", million), api.ErrTrail},
	} {
		if got, e := floodgate.Mean(api.Raw, c.s); got != "" || e != c.e {
			t.Errorf("%s: %.40q, %d, want %d", c.name, got, e, c.e)
		}
	}
}

func TestP5NoBoundOnWhatComesOut(t *testing.T) {
	// More comes out than any gate may let through, and much more than came in.
	literals := lengths(269, map[int]int{'a': 2, 256: 2, 268: 1})
	head := ownSets(last, literals, []int{1}) + codeOf(literals, 'a')
	copies := strings.Repeat(codeOf(literals, 268)+"1111"+"0", 50000)
	s := pack(head, copies, codeOf(literals, 256))
	if got, e := floodgate.Mean(api.Raw, s); got != strings.Repeat("a", 1+66*50000) || e != api.OK {
		t.Errorf("%d bytes, %d, want %d", len(got), e, 1+66*50000)
	}
}
