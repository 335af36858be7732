package floodgate_test

import (
	"strconv"
	"strings"
	"testing"

	"floodgate/api"
)

// quotaCase is a stream that is offered whole to a gate with some quotas.
type quotaCase struct {
	name  string
	c     api.Config
	s     string
	taken int
	put   int
	e     api.Errno
}

// check drains only when the room is full, as the stream would not go through else.
func (c quotaCase) check(t *testing.T) {
	t.Helper()
	g := opened(t, c.c)
	n, e := g.Write(c.s)
	for g.Tell().Waiting == api.Room {
		g.Drain(api.Room)
		more, err := g.Write(c.s[n:])
		n, e = n+more, err
	}
	if state := g.Tell(); n != c.taken || e != c.e || state.In != c.taken || state.Out != c.put || state.Err != c.e {
		t.Errorf("%s: %d, %d, want %d, %d; %+v", c.name, n, e, c.taken, c.e, state)
	}
	if c.e != api.OK {
		wantDead(t, g, c.e)
		return
	}
	wantClose(t, g, api.OK)
}

func TestP7TheDocumentsQuotas(t *testing.T) {
	quotaCase{"Out 1", turned(api.Raw, func(c *api.Config) { c.Out = 1 }), hi, 7, 1, api.ErrOut}.check(t)
	quotaCase{"Steps 6", turned(api.Raw, func(c *api.Config) { c.Steps = 6 }), hi, 6, 0, api.ErrSteps}.check(t)
}

func TestP12Steps(t *testing.T) {
	// Five bytes are taken ahead of the content; then a byte is taken and put out by turns.
	for steps := range 10 {
		c := quotaCase{strconv.Itoa(steps) + " steps", turned(api.Raw, func(c *api.Config) { c.Steps = steps }), hi, steps, 0, api.ErrSteps}
		if steps > 5 {
			c.taken, c.put = 5+(steps-4)/2, (steps-5)/2
		}
		if steps == 9 {
			c.e = api.OK
		}
		c.check(t)
	}
	// A byte behind the end is a step too; without one the stream has come to its end.
	quotaCase{"one byte more", turned(api.Raw, func(c *api.Config) { c.Steps = 9 }), hi + "!", 7, 2, api.ErrSteps}.check(t)
	quotaCase{"one byte and one step more", turned(api.Raw, func(c *api.Config) { c.Steps = 10 }), hi + "!", 8, 2, api.ErrTrail}.check(t)
	// Steps come ahead of what the byte may be wrong for.
	quotaCase{"no head", turned(api.Short, func(c *api.Config) { c.Steps = 0 }), "x", 0, 0, api.ErrSteps}.check(t)
	quotaCase{"a head too long", turned(api.Long, func(c *api.Config) { c.Steps, c.Head = 2, 2 }), "L\x02\x00", 2, 0, api.ErrSteps}.check(t)
	quotaCase{"a member too many", turned(api.Long, func(c *api.Config) { c.Steps, c.Members = 18, 1 }), memberOf("hi") + "L", 16, 2, api.ErrSteps}.check(t)
	quotaCase{"another sum", turned(api.Short, func(c *api.Config) { c.Steps = 14 }), "s\x01" + hi + "\x01\x3b\x00\xd3", 12, 2, api.ErrSteps}.check(t)
	quotaCase{"another sum, and a step more", turned(api.Short, func(c *api.Config) { c.Steps = 15 }), "s\x01" + hi + "\x01\x3b\x00\xd3", 13, 2, api.ErrSum}.check(t)
}

func TestP12StepsAreNotLookedAtWithoutAByte(t *testing.T) {
	for steps, s := range map[int]string{0: "", 1: hi[:1], 5: hi[:5], 9: hi} {
		g := opened(t, turned(api.Raw, func(c *api.Config) { c.Steps = steps }))
		wantWrite(t, g, len(s), api.OK, s)
		wantWrite(t, g, 0, api.OK, "", "")
		wantDrain(t, g, 0, "", api.OK)
		want := api.ErrShort
		if s == hi {
			want = api.OK
		}
		wantClose(t, g, want)
	}
}

// many is a stream of 1 + 3 * 66 bytes of a. The first copy is known with the 4th byte, the second with the 6th, the third with the 8th; the last byte is the 9th.
func many() string {
	return pack(fixed(last, fixedText("a"), strings.Repeat(fixedCopy(66, 1), 3), stop))
}

func TestP12Out(t *testing.T) {
	for _, c := range []struct{ out, taken int }{{0, 2}, {1, 4}, {2, 4}, {63, 4}, {64, 4}, {65, 4}, {66, 4}, {67, 6}, {132, 6}, {133, 8}, {198, 8}} {
		config := turned(api.Raw, func(config *api.Config) { config.Out = c.out })
		quotaCase{strconv.Itoa(c.out) + " bytes", config, many(), c.taken, c.out, api.ErrOut}.check(t)
	}
	quotaCase{"as many as come out", turned(api.Raw, func(c *api.Config) { c.Out = 199 }), many(), 9, 199, api.OK}.check(t)
	quotaCase{"nothing comes out", turned(api.Raw, func(c *api.Config) { c.Out = 0 }), pack(plain(last, "")), 5, 0, api.OK}.check(t)
	// All members count.
	twice := memberOf("hi") + memberOf("hi")
	quotaCase{"two members", turned(api.Long, func(c *api.Config) { c.Out = 3 }), twice, 16 + 10, 3, api.ErrOut}.check(t)
	quotaCase{"two members, just so", turned(api.Long, func(c *api.Config) { c.Out = 4 }), twice, 32, 4, api.OK}.check(t)
}

func TestP12Ratio(t *testing.T) {
	for _, c := range []struct{ ratio, slack, taken, put int }{
		{0, 0, 2, 0}, {0, 1, 4, 1}, {0, 66, 4, 66}, {0, 67, 6, 67},
		{1, 0, 4, 4}, {1, 10, 4, 14}, {16, 2, 4, 66}, {16, 3, 6, 96 + 3}, {22, 0, 6, 132},
		{24, 0, 8, 192}, {24, 6, 8, 198}, {0, 198, 8, 198},
	} {
		config := turned(api.Raw, func(config *api.Config) { config.Ratio, config.Slack = c.ratio, c.slack })
		quotaCase{strconv.Itoa(c.ratio) + " and " + strconv.Itoa(c.slack), config, many(), c.taken, c.put, api.ErrRatio}.check(t)
	}
	for _, c := range []struct{ ratio, slack int }{{24, 7}, {25, 0}, {0, 199}, {1000, 0}} {
		config := turned(api.Raw, func(config *api.Config) { config.Ratio, config.Slack = c.ratio, c.slack })
		quotaCase{"just so", config, many(), 9, 199, api.OK}.check(t)
	}
	// What was taken of all members counts, heads and ends too.
	twice := memberOf("") + memberOf(strings.Repeat("z", 30))
	quotaCase{"much taken, little put out", turned(api.Long, func(c *api.Config) { c.Ratio, c.Slack = 1, 0 }), twice, len(twice), 30, api.OK}.check(t)
}

func TestP12OrderOfTheQuotasOfAPut(t *testing.T) {
	for _, c := range []struct {
		steps, out, slack int
		e                 api.Errno
	}{
		{6, 0, 0, api.ErrSteps}, {6, 0, 9, api.ErrSteps}, {6, 9, 0, api.ErrSteps}, {6, 9, 9, api.ErrSteps},
		{7, 0, 0, api.ErrOut}, {7, 0, 9, api.ErrOut}, {7, 9, 0, api.ErrRatio},
	} {
		config := turned(api.Raw, func(config *api.Config) {
			config.Steps, config.Out, config.Ratio, config.Slack = c.steps, c.out, 0, c.slack
		})
		quotaCase{"the first byte", config, hi, 6, 0, c.e}.check(t)
	}
}

func TestP12QuotasAreNotLookedAtWithoutRoom(t *testing.T) {
	s := pack(plain(last, rising(65)))
	for _, c := range []struct {
		e    api.Errno
		turn func(*api.Config)
	}{
		{api.ErrSteps, func(c *api.Config) { c.Steps = 70 + 64 }},
		{api.ErrOut, func(c *api.Config) { c.Out = 64 }},
		{api.ErrRatio, func(c *api.Config) { c.Ratio, c.Slack = 0, 64 }},
	} {
		g := opened(t, turned(api.Raw, c.turn))
		wantWrite(t, g, 70, api.OK, s)
		wantWrite(t, g, 0, api.OK, "more")
		wantDrain(t, g, 0, "", api.OK)
		wantTell(t, g, api.State{In: 70, Out: 64, Waiting: 64, Members: 1, Steps: 134})
		wantClose(t, g, api.OK)
		wantDrain(t, g, 2, rising(2), api.OK)
		wantTell(t, g, api.State{In: 70, Out: 64, Members: 1, Steps: 134, Err: c.e})
		wantDead(t, g, c.e)
	}
}

func TestP7HeadsThatAreTooLong(t *testing.T) {
	for format, heads := range map[int][]string{
		api.Short: {"s\x01"},
		api.Long:  {"L\x02\x00", longHead(1, "ab", ""), longHead(2, "", ""), longHead(3, "ab", "cde"), longHead(4, "", ""), longHead(7, "abc", "de"), longHead(5, strings.Repeat("n", 95), "")},
	} {
		for _, head := range heads {
			end := sumBytes("hi")
			if format == api.Long {
				end += sizeBytes("hi")
			}
			s := head + hi + end
			for limit := range len(head) {
				config := turned(format, func(c *api.Config) { c.Head = limit })
				quotaCase{"too long", config, s, limit + 1, 0, api.ErrLong}.check(t)
				// It is found at that byte, whatever it is.
				quotaCase{"too long and wrong", config, flipped(s, 8*limit), limit + 1, 0, api.ErrLong}.check(t)
			}
			if len(head) <= 100 {
				quotaCase{"just so long", turned(format, func(c *api.Config) { c.Head = len(head) }), s, len(s), 2, api.OK}.check(t)
			}
		}
	}
	// Each head is counted by itself, and nothing of a member but its head.
	short, long := memberOf(rising(50)), longOf(longHead(1, "a", ""), hi, "hi")
	three := turned(api.Long, func(c *api.Config) { c.Head = 3 })
	quotaCase{"several", three, strings.Repeat(short, 5), 5 * len(short), 250, api.OK}.check(t)
	quotaCase{"the second is too long", three, short + long, len(short) + 4, 50, api.ErrLong}.check(t)
	quotaCase{"a name without end", wide(api.Long), "L\x02\x01" + strings.Repeat("x", 1000), 101, 0, api.ErrLong}.check(t)
}

func TestP7MembersThatAreTooMany(t *testing.T) {
	member := memberOf("hi")
	for _, limit := range []int{1, 2, 3, 99, 100} {
		config := turned(api.Long, func(c *api.Config) { c.Members = limit })
		all := strings.Repeat(member, limit)
		quotaCase{"just so many", config, all, 16 * limit, 2 * limit, api.OK}.check(t)
		for _, behind := range []string{"L", member, "x", "\x00"} {
			quotaCase{"one too many", config, all + behind, 16*limit + 1, 2 * limit, api.ErrMembers}.check(t)
		}
	}
	// The first byte of a member too many is not looked at as one of a head.
	config := turned(api.Long, func(c *api.Config) { c.Members, c.Head = 1, 3 })
	quotaCase{"and too long", config, member + "x", 17, 2, api.ErrMembers}.check(t)
	// One member is all that Raw and Short have.
	for format, s := range []string{hi, shortOf(hi, "hi")} {
		one := turned(format, func(c *api.Config) { c.Members = 1 })
		quotaCase{"one byte more", one, s + "s", len(s) + 1, 2, api.ErrTrail}.check(t)
	}
}

func TestP11EachQuotaLetsThroughJustWhatItBounds(t *testing.T) {
	checked := 0
	for seed := range uint64(90) {
		format := int(seed % 3)
		m, bits := randomStream(seed)
		s, out := pack(bits), m.out
		if format != api.Raw {
			_, s, out = randomFrame(format, seed)
		}
		// Some heads are longer than any quota lets through.
		if _, e := eventsByWords(wide(format), s); e == api.OK {
			wantJustThrough(t, format, s, out)
			checked++
		}
	}
	if checked < 45 {
		t.Errorf("only %d streams were checked", checked)
	}
}

// wantJustThrough looks at each quota by itself; the others are wide.
func wantJustThrough(t *testing.T, format int, s, out string) {
	t.Helper()
	for _, q := range []struct {
		need int
		e    api.Errno
		turn func(c *api.Config, n int)
	}{
		{len(s) + len(out), api.ErrSteps, func(c *api.Config, n int) { c.Steps = n }},
		{len(out), api.ErrOut, func(c *api.Config, n int) { c.Out = n }},
		{len(out), api.ErrRatio, func(c *api.Config, n int) { c.Ratio, c.Slack = 0, n }},
	} {
		for n := q.need; n >= 0; n -= 1 + (q.need-n)*3 {
			want := q.e
			if n == q.need {
				want = api.OK
			}
			config := turned(format, func(c *api.Config) { q.turn(c, n) })
			got, drained := endOf(t, config, s, 3, 5)
			if got.e != want || got.accepted != (want == api.OK) || !strings.HasPrefix(out, drained) || got.accepted && drained != out {
				t.Fatalf("%+v, %q: %+v, want the error %d", config, s, got, want)
			}
		}
	}
}
