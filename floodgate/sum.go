package floodgate

// modulus bounds both numbers of a sum.
const modulus = 65521

// Sum tells the sum of some bytes (P3).
func Sum(s string) int {
	all := emptySum()
	for i := range len(s) {
		all.add(s[i])
	}
	return all.number()
}

// sum is the two numbers of a sum of which not all bytes need be known yet.
type sum struct {
	x, y int
}

func emptySum() sum { return sum{x: 1} }

func (s *sum) add(b byte) {
	s.x = (s.x + int(b)) % modulus
	s.y = (s.y + s.x) % modulus
}

func (s sum) number() int { return 65536*s.y + s.x }
