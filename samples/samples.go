// Package samples makes things for the tests to try: the same ones in every run.
package samples

// Source is a row of numbers that looks disorderly, and hangs on its starting value alone.
type Source struct {
	state uint64
}

// New is the row of a starting value.
func New(seed int) *Source { return &Source{state: uint64(seed)*0x9E3779B97F4A7C15 + 1} }

// Word is the next number of the row.
func (s *Source) Word() uint64 {
	s.state = s.state*6364136223846793005 + 1442695040888963407
	x := s.state
	x ^= x >> 33
	x *= 0xFF51AFD7ED558CCD
	return x ^ x>>29
}

// Below is the next number, brought below n; 0, if n is below 1.
func (s *Source) Below(n int) int {
	if n < 1 {
		return 0
	}
	return int(s.Word() % uint64(n))
}

// Chance is true in part of whole cases, by and large.
func (s *Source) Chance(part, whole int) bool { return s.Below(whole) < part }
