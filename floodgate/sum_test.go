package floodgate_test

import (
	"strings"
	"testing"

	"floodgate/floodgate"
)

// sumAtOnce works the sum out by the closed form of its two numbers, with one remainder at the end.
func sumAtOnce(s string) int {
	x, y := 1, len(s)
	for i := range len(s) {
		x += int(s[i])
		y += int(s[i]) * (len(s) - i)
	}
	return 65536*(y%65521) + x%65521
}

func TestP3SumOfShortTexts(t *testing.T) {
	for _, c := range []struct {
		s    string
		x, y int
	}{
		{"", 1, 0},
		{"a", 98, 98},
		{"hi", 210, 315},
		{"ih", 210, 316},
		{"\x00", 1, 1},
		{"\x00\x00\x00", 1, 3},
		{"\xff", 256, 256},
		{"\x80", 129, 129},
		{"é", 1 + 0xc3 + 0xa9, 2 + 2*0xc3 + 0xa9},
		{"\xff\x00", 256, 512},
	} {
		if got, want := floodgate.Sum(c.s), 65536*c.y+c.x; got != want {
			t.Errorf("Sum(%q) = %d, want %d", c.s, got, want)
		}
	}
}

func TestP3SumOfOneByte(t *testing.T) {
	for b := range 256 {
		s := string([]byte{byte(b)})
		if got, want := floodgate.Sum(s), 65537*(1+b); got != want {
			t.Errorf("Sum(%q) = %d, want %d", s, got, want)
		}
	}
}

func TestP3SumAroundTheModulus(t *testing.T) {
	greatX := strings.Repeat("\xff", 256) // x is 65281 behind it
	for _, c := range []struct {
		name string
		s    string
		x    int
	}{
		{"x just below", greatX + "\xef", 65520},
		{"x just at", greatX + "\xf0", 0},
		{"x just above", greatX + "\xf1", 1},
	} {
		got := floodgate.Sum(c.s)
		if got%65536 != c.x || got != sumAtOnce(c.s) {
			t.Errorf("%s: Sum = %d, want %d with x %d", c.name, got, sumAtOnce(c.s), c.x)
		}
	}
	for zeros, y := range map[int]int{65520: 65520, 65521: 0, 65522: 1} {
		if got, want := floodgate.Sum(strings.Repeat("\x00", zeros)), 65536*y+1; got != want {
			t.Errorf("Sum of %d zeros = %d, want %d", zeros, got, want)
		}
	}
}

func TestP3SumOfLongTexts(t *testing.T) {
	for _, s := range []string{
		strings.Repeat("\xff", 22),
		strings.Repeat("\xff", 23),
		strings.Repeat("\xff", 5552),
		strings.Repeat("\xff", 5553),
		strings.Repeat("floodgate", 10000),
		strings.Repeat("\xff\x00\x7f\x80", 50000),
	} {
		if got, want := floodgate.Sum(s), sumAtOnce(s); got != want {
			t.Errorf("Sum of %d bytes (%.9q) = %d, want %d", len(s), s, got, want)
		}
	}
}

func TestP1SumEndsAtAnyText(t *testing.T) {
	for _, s := range []string{"", "\xff\xfe\x00", "\xed\xa0\x80", strings.Repeat("\xff", 1<<24)} {
		if n := floodgate.Sum(s); n < 0 || n%65536 >= 65521 || n/65536 >= 65521 {
			t.Errorf("Sum of %d bytes = %d, which is no sum", len(s), n)
		}
	}
}
