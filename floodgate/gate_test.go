package floodgate_test

import (
	"math"
	"slices"
	"strings"
	"testing"

	"floodgate/api"
	"floodgate/floodgate"
)

// wide is the configuration whose quotas are the greatest that may be.
func wide(format int) api.Config {
	return api.Config{Format: format, Out: 100000, Ratio: 1000, Slack: 100000, Members: 100, Head: 100, Steps: 1000000}
}

// turned is the wide configuration with something changed.
func turned(format int, turn func(*api.Config)) api.Config {
	c := wide(format)
	turn(&c)
	return c
}

func opened(t *testing.T, c api.Config) *floodgate.Gate {
	t.Helper()
	g, e := floodgate.Open(c)
	if g == nil || e != api.OK {
		t.Fatalf("Open(%+v) = %v, %d", c, g, e)
	}
	return g
}

func wantWrite(t *testing.T, g *floodgate.Gate, want int, e api.Errno, pieces ...string) {
	t.Helper()
	if n, err := g.Write(pieces...); n != want || err != e {
		t.Fatalf("Write(%.60q) = %d, %d, want %d, %d", pieces, n, err, want, e)
	}
}

func wantDrain(t *testing.T, g *floodgate.Gate, n int, want string, e api.Errno) {
	t.Helper()
	if drained, err := g.Drain(n); drained != want || err != e {
		t.Fatalf("Drain(%d) = %q, %d, want %q, %d", n, drained, err, want, e)
	}
}

func wantClose(t *testing.T, g *floodgate.Gate, want api.Errno) {
	t.Helper()
	if e := g.Close(); e != want {
		t.Fatalf("Close() = %d, want %d", e, want)
	}
}

func wantTell(t *testing.T, g *floodgate.Gate, want api.State) {
	t.Helper()
	if s := g.Tell(); s != want {
		t.Fatalf("Tell() = %+v, want %+v", s, want)
	}
}

// wantDead checks that each call on a refused gate tells why, and changes nothing.
func wantDead(t *testing.T, g *floodgate.Gate, e api.Errno) {
	t.Helper()
	before := g.Tell()
	if before.Err != e || before.Waiting != 0 || before.Accepted {
		t.Fatalf("Tell() = %+v, want it refused with %d", before, e)
	}
	for range 2 {
		wantWrite(t, g, 0, e)
		wantWrite(t, g, 0, e, hi, "L\x02\x00")
		wantDrain(t, g, 0, "", e)
		wantDrain(t, g, 64, "", e)
		wantDrain(t, g, -1, "", e)
		wantClose(t, g, e)
		wantTell(t, g, before)
	}
}

func TestP6EachBoundOfAConfiguration(t *testing.T) {
	for _, c := range []struct {
		name        string
		field       func(*api.Config) *int
		least, most int
	}{
		{"Format", func(c *api.Config) *int { return &c.Format }, 0, 2},
		{"Out", func(c *api.Config) *int { return &c.Out }, 0, 100000},
		{"Ratio", func(c *api.Config) *int { return &c.Ratio }, 0, 1000},
		{"Slack", func(c *api.Config) *int { return &c.Slack }, 0, 100000},
		{"Members", func(c *api.Config) *int { return &c.Members }, 1, 100},
		{"Head", func(c *api.Config) *int { return &c.Head }, 0, 100},
		{"Steps", func(c *api.Config) *int { return &c.Steps }, 0, 1000000},
	} {
		for format := range 3 {
			for _, n := range []int{c.least, c.least + 1, c.most - 1, c.most} {
				config := wide(format)
				*c.field(&config) = n
				wantTell(t, opened(t, config), api.State{})
			}
			for _, n := range []int{c.least - 1, c.most + 1, -1, math.MinInt, math.MaxInt, 1 << 32, -1 << 32, 1<<32 + 1} {
				for _, config := range []api.Config{wide(format), {Format: format, Members: 1}} {
					*c.field(&config) = n
					if g, e := floodgate.Open(config); g != nil || e != api.ErrConfig {
						t.Errorf("%s %d: Open(%+v) = %v, %d, want ErrConfig", c.name, n, config, g, e)
					}
				}
			}
		}
	}
	if g, e := floodgate.Open(api.Config{}); g != nil || e != api.ErrConfig {
		t.Errorf("Open of no members = %v, %d, want ErrConfig", g, e)
	}
}

func TestP6MembersAndHeadAreOfNoAccountInRaw(t *testing.T) {
	for _, head := range []int{0, 1, 100} {
		g := opened(t, turned(api.Raw, func(c *api.Config) { c.Members, c.Head = 1, head }))
		wantWrite(t, g, 7, api.OK, hi)
		wantWrite(t, g, 1, api.ErrTrail, "L\x02\x00")
		wantTell(t, g, api.State{In: 8, Out: 2, Members: 1, Steps: 10, Err: api.ErrTrail})
	}
}

func TestP7NothingIsOffered(t *testing.T) {
	for format := range 3 {
		c := api.Config{Format: format, Members: 1}
		g := opened(t, c)
		wantWrite(t, g, 0, api.OK)
		wantWrite(t, g, 0, api.OK, "")
		wantWrite(t, g, 0, api.OK, "", "", "")
		wantWrite(t, g, 0, api.OK, slices.Repeat([]string{""}, 1000000)...)
		wantDrain(t, g, 100, "", api.OK)
		wantTell(t, g, api.State{})
		wantWrite(t, g, 0, api.ErrSteps, "", "s")
		wantDead(t, g, api.ErrSteps)
	}
}

func TestP7PiecesAreAsOne(t *testing.T) {
	s := longOf(longHead(7, "ab", "c"), pack(plain(more, "hi"), fixed(last, fixedText("abc"), fixedCopy(9, 5), stop)), "hiabchiabchiab")
	want := api.State{In: len(s), Out: 14, Waiting: 14, Members: 1, Steps: len(s) + 14}
	for i := range len(s) + 1 {
		for j := i; j <= len(s); j++ {
			together, apart := opened(t, wide(api.Long)), opened(t, wide(api.Long))
			wantWrite(t, together, len(s), api.OK, s[:i], s[i:j], "", s[j:])
			wantTell(t, together, want)
			wantWrite(t, apart, i, api.OK, s[:i])
			wantWrite(t, apart, len(s)-i, api.OK, s[i:j], s[j:])
			wantTell(t, apart, want)
			wantDrain(t, together, 100, "hiabchiabchiab", api.OK)
			wantClose(t, together, api.OK)
		}
	}
}

func TestP7NoByteIsTakenBehindTheWrongOne(t *testing.T) {
	for _, c := range []struct {
		format int
		s      string
		e      api.Errno
	}{
		{api.Raw, "\x07", api.ErrBlock},
		{api.Raw, "\x09", api.ErrPad},
		{api.Raw, "\x01\x02\x00\xfc\xff", api.ErrLength},
		{api.Raw, hi + "!", api.ErrTrail},
		{api.Short, "S", api.ErrHead},
		{api.Short, "s\x02", api.ErrHead},
		{api.Short, "s\x01" + hi + "\x01\x3b\x00\xd3", api.ErrSum},
		{api.Short, "s\x01" + hi + "\x01\x3b\x00\xd2s", api.ErrTrail},
		{api.Long, "l", api.ErrHead},
		{api.Long, memberOf("hi") + "x", api.ErrHead},
		{api.Long, "L\x02\x08", api.ErrHead},
		{api.Long, "L\x02\x04\x53", api.ErrHead},
		{api.Long, "L\x02\x00" + hi + sumBytes("hi") + "\x02\x01", api.ErrSize},
	} {
		for split := range len(c.s) {
			g := opened(t, wide(c.format))
			wantWrite(t, g, split, api.OK, c.s[:split])
			wantWrite(t, g, len(c.s)-split, c.e, c.s[split:], "", "more", "and more")
			wantDead(t, g, c.e)
		}
	}
	// A wrong thing is told with the byte by which it is known, not with the next one.
	for _, c := range badBlocks() {
		s := pack(c.bits)
		g := opened(t, wide(api.Raw))
		wantWrite(t, g, len(s)-1, api.OK, s[:len(s)-1])
		wantWrite(t, g, 1, c.e, s[len(s)-1:])
		wantDead(t, g, c.e)
	}
}

func TestP7WhatIsNotTakenIsNotKept(t *testing.T) {
	content := rising(70)
	s := pack(plain(last, content))
	g := opened(t, wide(api.Raw))
	// The 65th byte is in hand; there is no room for it.
	wantWrite(t, g, 5+65, api.OK, s)
	full := api.State{In: 70, Out: 64, Waiting: 64, Members: 1, Steps: 134}
	wantTell(t, g, full)
	wantWrite(t, g, 0, api.OK, s[70:])
	wantWrite(t, g, 0, api.OK, "others")
	wantTell(t, g, full)
	wantDrain(t, g, 3, content[:3], api.OK)
	wantTell(t, g, api.State{In: 70, Out: 65, Waiting: 62, Members: 1, Steps: 135})
	wantWrite(t, g, 3, api.OK, "AB", "C")
	wantTell(t, g, api.State{In: 73, Out: 67, Waiting: 64, Members: 1, Steps: 140})
	wantDrain(t, g, 100, content[3:65]+"AB", api.OK)
	wantWrite(t, g, 2, api.OK, "DE")
	wantDrain(t, g, 100, "CDE", api.OK)
	wantClose(t, g, api.OK)
}

func TestP7SymbolsAreReadWhileTheRoomIsFull(t *testing.T) {
	// Behind the 64th byte the next symbol is read, up to the bit by which a byte would come out.
	bits := fixed(last, fixedText(strings.Repeat("a", 64)))
	for _, c := range []struct {
		name, behind string
		needed       string
	}{
		{"a literal", fixedText("b") + stop, fixedText("b")},
		{"a copy", fixedCopy(66, 64) + stop, fixedCopy(66, 64)},
		{"the end", stop, stop},
	} {
		s := pack(bits, c.behind)
		g := opened(t, wide(api.Raw))
		wantWrite(t, g, len(pack(bits, c.needed)), api.OK, s)
		if state := g.Tell(); state.Waiting != 64 {
			t.Errorf("%s: Tell() = %+v", c.name, state)
		}
	}
	// What is wrong with it is told although there is no room.
	far := pack(bits, fixedCopy(3, 65))
	g := opened(t, wide(api.Raw))
	wantWrite(t, g, len(far), api.ErrDist, far, "more")
	wantDead(t, g, api.ErrDist)
	padded := flipped(pack(bits, stop), 8*len(pack(bits, stop))-1)
	g = opened(t, wide(api.Raw))
	wantWrite(t, g, len(padded), api.ErrPad, padded, "more")
	wantDead(t, g, api.ErrPad)
}

func TestP8Drain(t *testing.T) {
	g := opened(t, wide(api.Raw))
	wantDrain(t, g, 0, "", api.OK)
	wantDrain(t, g, math.MaxInt, "", api.OK)
	wantDrain(t, g, -1, "", api.ErrArg)
	wantDrain(t, g, math.MinInt, "", api.ErrArg)
	wantWrite(t, g, 11, api.OK, pack(plain(last, "abcdef")))
	wantDrain(t, g, 0, "", api.OK)
	wantDrain(t, g, 1, "a", api.OK)
	wantDrain(t, g, 2, "bc", api.OK)
	before := g.Tell()
	wantDrain(t, g, -1, "", api.ErrArg)
	wantTell(t, g, before)
	wantDrain(t, g, math.MaxInt, "def", api.OK)
	wantDrain(t, g, 1, "", api.OK)
	wantTell(t, g, api.State{In: 11, Out: 6, Members: 1, Steps: 17})
}

func TestP8TheGateGoesOn(t *testing.T) {
	s := pack(fixed(last, fixedText("a"), fixedCopy(66, 1), fixedCopy(66, 1), stop))
	g := opened(t, wide(api.Raw))
	first := len(pack(fixed(last, fixedText("a"), fixedCopy(66, 1))))
	wantWrite(t, g, first, api.OK, s)
	for out := 65; out <= 67; out++ {
		wantDrain(t, g, 1, "a", api.OK)
		wantTell(t, g, api.State{In: first, Out: out, Waiting: 64, Members: 1, Steps: first + out})
	}
	// Now a byte is needed, and none is offered.
	wantDrain(t, g, 1, "a", api.OK)
	wantTell(t, g, api.State{In: first, Out: 67, Waiting: 63, Members: 1, Steps: first + 67})
	rest := len(s) - first
	wantWrite(t, g, rest-1, api.OK, s[first:len(s)-1])
	wantDrain(t, g, 64, strings.Repeat("a", 64), api.OK)
	wantDrain(t, g, 64, strings.Repeat("a", 64), api.OK)
	wantDrain(t, g, 64, "a", api.OK)
	wantWrite(t, g, 1, api.OK, s[len(s)-1:])
	wantClose(t, g, api.OK)
	wantTell(t, g, api.State{In: len(s), Out: 133, Members: 1, Steps: len(s) + 133, Accepted: true})
}

func TestP8RefusedBehindADrain(t *testing.T) {
	// 67 bytes would come out, of which a quota lets 65 through; the 64 that wait then are lost.
	s := pack(fixed(last, fixedText("a"), fixedCopy(66, 1), stop))
	taken := len(pack(fixed(last, fixedText("a"), fixedCopy(66, 1))))
	for _, c := range []struct {
		e    api.Errno
		turn func(*api.Config)
	}{
		{api.ErrOut, func(c *api.Config) { c.Out = 65 }},
		{api.ErrRatio, func(c *api.Config) { c.Ratio, c.Slack = 1, 65-taken }},
		{api.ErrSteps, func(c *api.Config) { c.Steps = taken + 65 }},
	} {
		g := opened(t, turned(api.Raw, c.turn))
		wantWrite(t, g, taken, api.OK, s)
		wantDrain(t, g, 1, "a", api.OK)
		wantTell(t, g, api.State{In: taken, Out: 65, Waiting: 64, Members: 1, Steps: taken + 65})
		wantDrain(t, g, 1, "a", api.OK)
		wantTell(t, g, api.State{In: taken, Out: 65, Members: 1, Steps: taken + 65, Err: c.e})
		wantDead(t, g, c.e)
	}
}

func TestP9CloseAtOnce(t *testing.T) {
	for format := range 3 {
		g := opened(t, wide(format))
		wantClose(t, g, api.ErrShort)
		wantTell(t, g, api.State{Err: api.ErrShort})
		wantDead(t, g, api.ErrShort)
	}
}

func TestP9CloseAtEachByte(t *testing.T) {
	twice := memberOf("hi") + memberOf("ho")
	for _, c := range []struct {
		format int
		s      string
		ends   []int
	}{{api.Raw, hi, []int{7}}, {api.Short, shortOf(hi, "hi"), []int{13}}, {api.Long, twice, []int{16, 32}}} {
		for end := range len(c.s) + 1 {
			g := opened(t, wide(c.format))
			wantWrite(t, g, end, api.OK, c.s[:end])
			before := g.Tell()
			if slices.Contains(c.ends, end) {
				wantClose(t, g, api.OK)
				before.Accepted = true
				wantTell(t, g, before)
				wantDrain(t, g, 64, "hiho"[:before.Waiting], api.OK)
				continue
			}
			wantClose(t, g, api.ErrShort)
			before.Err, before.Waiting = api.ErrShort, 0
			wantTell(t, g, before)
			wantDead(t, g, api.ErrShort)
		}
	}
}

func TestP9ClosedGates(t *testing.T) {
	g := opened(t, wide(api.Raw))
	wantWrite(t, g, 7, api.OK, hi)
	wantClose(t, g, api.OK)
	accepted := api.State{In: 7, Out: 2, Waiting: 2, Members: 1, Steps: 9, Accepted: true}
	for range 2 {
		wantWrite(t, g, 0, api.ErrClosed)
		wantWrite(t, g, 0, api.ErrClosed, "more")
		wantClose(t, g, api.ErrClosed)
		wantDrain(t, g, -1, "", api.ErrArg)
		wantDrain(t, g, 0, "", api.OK)
		wantTell(t, g, accepted)
	}
	wantDrain(t, g, 1, "h", api.OK)
	wantDrain(t, g, 9, "i", api.OK)
	wantDrain(t, g, 9, "", api.OK)
	accepted.Waiting = 0
	wantTell(t, g, accepted)
}

// inHand is the bits of a stream of which all bytes are taken when the room is full: a short end lies in the byte in which the copy ends. It means so many bytes of a.
func inHand(isLast string) (bits string, size int) {
	literals := lengths(269, map[int]int{'a': 2, 256: 2, 268: 1})
	ahead := ownSets(isLast, literals, []int{1})
	for size = 1; ; size++ {
		ahead += inSet(literals, 'a')
		copied := ahead + inSet(literals, 268) + "1111" + "0"
		bits = copied + inSet(literals, 256)
		if len(pack(copied)) == len(pack(bits)) && unusedBits(bits) > 0 {
			return bits, size + 66
		}
	}
}

func TestP9FateBehindSomeDrain(t *testing.T) {
	right, size := inHand(last)
	open, _ := inHand(more)
	s := pack(right)
	for _, c := range []struct {
		name string
		turn func(*api.Config)
		s    string
		e    api.Errno
	}{
		{"at its end", func(c *api.Config) {}, s, api.OK},
		{"another block should come", func(c *api.Config) {}, pack(open), api.ErrShort},
		{"a bit behind the end", func(c *api.Config) {}, flipped(s, 8*len(s)-1), api.ErrPad},
		{"as many as may be", func(c *api.Config) { c.Out = size }, s, api.OK},
		{"one too many", func(c *api.Config) { c.Out = size - 1 }, s, api.ErrOut},
		{"as many steps as may be", func(c *api.Config) { c.Steps = len(s) + size }, s, api.OK},
		{"one step too many", func(c *api.Config) { c.Steps = len(s) + size - 1 }, s, api.ErrSteps},
		{"one too many for what came", func(c *api.Config) { c.Ratio, c.Slack = 0, size-1 }, s, api.ErrRatio},
	} {
		g := opened(t, turned(api.Raw, c.turn))
		wantWrite(t, g, len(s), api.OK, c.s)
		wantClose(t, g, api.OK)
		for drained := range size - 64 {
			out := 64 + drained
			wantTell(t, g, api.State{In: len(s), Out: out, Waiting: 64, Members: 1, Steps: len(s) + out})
			wantWrite(t, g, 0, api.ErrClosed, "x")
			wantClose(t, g, api.ErrClosed)
			wantDrain(t, g, 1, "a", api.OK)
		}
		if c.e == api.OK {
			wantTell(t, g, api.State{In: len(s), Out: size, Waiting: 64, Members: 1, Steps: len(s) + size, Accepted: true})
			wantDrain(t, g, 65, strings.Repeat("a", 64), api.OK)
			continue
		}
		wantDead(t, g, c.e)
	}
}

func TestP10Members(t *testing.T) {
	for format, s := range []string{hi, shortOf(hi, "hi")} {
		g := opened(t, wide(format))
		for i := range len(s) {
			wantWrite(t, g, 1, api.OK, s[i:i+1])
			if state := g.Tell(); state.Members != 1 || state.In != i+1 {
				t.Errorf("Tell() = %+v behind %d bytes", state, i+1)
			}
		}
	}
	g := opened(t, wide(api.Long))
	for i := range 5 {
		member := memberOf(rising(i))
		for j := range len(member) {
			if state := g.Tell(); state.Members != i && j == 0 || state.Members != i+1 && j > 0 {
				t.Errorf("Tell() = %+v behind %d members and %d bytes", state, i, j)
			}
			wantWrite(t, g, 1, api.OK, member[j:j+1])
		}
	}
}

func TestP10MembersThatAreRefusedWithTheirFirstByte(t *testing.T) {
	for format, first := range []string{"\x07", "x", "x"} {
		g := opened(t, wide(format))
		g.Write(first)
		if state := g.Tell(); state.Err == api.OK || state.Members != 1 || state.In != 1 {
			t.Errorf("the format %d: Tell() = %+v", format, state)
		}
		none := opened(t, turned(format, func(c *api.Config) { c.Steps = 0 }))
		wantWrite(t, none, 0, api.ErrSteps, first)
		wantTell(t, none, api.State{Err: api.ErrSteps})
	}
	member := memberOf("hi")
	for _, c := range []struct {
		turn    func(*api.Config)
		e       api.Errno
		members int
	}{
		{func(c *api.Config) {}, api.ErrHead, 3},
		{func(c *api.Config) { c.Members = 3 }, api.ErrHead, 3},
		{func(c *api.Config) { c.Members = 2 }, api.ErrMembers, 2},
	} {
		g := opened(t, turned(api.Long, c.turn))
		wantWrite(t, g, 33, c.e, member, member, "xyz")
		wantTell(t, g, api.State{In: 33, Out: 4, Members: c.members, Steps: 37, Err: c.e})
		wantDead(t, g, c.e)
	}
	g := opened(t, turned(api.Long, func(c *api.Config) { c.Steps = 36 }))
	wantWrite(t, g, 32, api.ErrSteps, member, member, member)
	wantTell(t, g, api.State{In: 32, Out: 4, Members: 2, Steps: 36, Err: api.ErrSteps})
}

func TestP10TellChangesNothing(t *testing.T) {
	asked, left := opened(t, wide(api.Long)), opened(t, wide(api.Long))
	s := memberOf(rising(100))
	for at := 0; at < len(s); {
		n, e := left.Write(s[at:])
		for range 3 {
			asked.Tell()
		}
		wantWrite(t, asked, n, e, s[at:])
		wantTell(t, asked, left.Tell())
		drained, e := left.Drain(5)
		wantDrain(t, asked, 5, drained, e)
		at += n
	}
}

func TestP1CallsEndAtGreatLists(t *testing.T) {
	const million = 1000000
	for _, c := range []struct {
		name   string
		pieces []string
		e      api.Errno
	}{
		{"one great piece", []string{strings.Repeat("\x00\x00\x00\xff\xff", million)}, api.ErrSteps},
		{"many small ones", slices.Repeat([]string{"\x00\x00\x00", "", "\xff\xff"}, million), api.ErrSteps},
		{"many of 0", []string{strings.Repeat("\x00", million)}, api.ErrLength},
		{"many fixed blocks", []string{strings.Repeat(pack(fixed(more, stop), fixed(more, stop)), million)}, api.ErrSteps},
		{"many own blocks", []string{strings.Repeat(pack(shifted(0)), million/10)}, api.ErrSteps},
	} {
		g := opened(t, wide(api.Raw))
		n, e := g.Write(c.pieces...)
		if state := g.Tell(); e != c.e || state.Steps != n || e == api.ErrSteps && n != million {
			t.Errorf("%s: Write = %d, %d, want the error %d; %+v", c.name, n, e, c.e, state)
		}
	}
}

func TestP2PiecesAreNeitherChangedNorKept(t *testing.T) {
	content := rising(200)
	s := pack(plain(last, content))
	row := []string{s[:3], s[3:50], "", s[50:120], s[120:], "spare"}
	kept := slices.Clone(row)
	g := opened(t, wide(api.Raw))
	wantWrite(t, g, 70, api.OK, row[:5]...)
	if !slices.Equal(row, kept) {
		t.Errorf("Write made %q of %q", row, kept)
	}
	if floodgate.KeepsPieces(g) {
		t.Errorf("the gate keeps pieces")
	}
	for i := range row {
		row[i] = "something else"
	}
	wantDrain(t, g, 64, content[:64], api.OK)
	wantTell(t, g, api.State{In: 70, Out: 65, Waiting: 1, Members: 1, Steps: 135})
	wantDrain(t, g, 64, content[64:65], api.OK)
	for at := 70; at < len(s); at += 5 {
		row[0] = s[at:min(len(s), at+5)]
		wantWrite(t, g, len(row[0]), api.OK, row[:1]...)
		row[0] = "!!!!!"
		wantDrain(t, g, 64, content[at-5:min(200, at)], api.OK)
	}
	wantClose(t, g, api.OK)
}

func TestP2GatesHaveNothingToDoWithOneAnother(t *testing.T) {
	var apart []*pair
	for seed := range uint64(60) {
		m, format, s := randomInput(seed)
		apart = append(apart, openPair(t, randomConfig(m.Rand, format, s), s))
	}
	random, _ := randomStream(1)
	for range 40 {
		for _, p := range apart {
			p.wander(random.Rand, 2, 9)
		}
	}
	for _, p := range apart {
		p.finish()
	}
}
