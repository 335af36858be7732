package floodgate

// modulus bounds both numbers of a sum.
const modulus = 65521

// Sum tells the sum of some bytes (P3).
func Sum(s string) int {
	x, y := 1, 0
	for i := range len(s) {
		x = (x + int(s[i])) % modulus
		y = (y + x) % modulus
	}
	return 65536*y + x
}
