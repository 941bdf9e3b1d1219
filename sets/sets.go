// Package sets is layer 1: see shared/doc/01-sets.md.
package sets

import "math/bits"

const (
	words = 4
	width = 64
	size  = words * width
)

// Set is a set of numbers from 0 to 255.
type Set [words]uint64

// fits tells whether a number may be in a set at all.
func fits(n int) bool { return n >= 0 && n < size }

// Full is the set of all numbers below n.
func Full(n int) Set {
	var s Set
	// Held within bounds first: far below 0 the difference would wrap round.
	n = min(max(n, 0), size)
	for w := range words {
		if rest := n - w*width; rest >= width {
			s[w] = ^uint64(0)
		} else if rest > 0 {
			s[w] = 1<<rest - 1
		}
	}
	return s
}

// Of is the set of those numbers of a list that may be in one.
func Of(l ...int) Set {
	var s Set
	for _, n := range l {
		s = s.With(n)
	}
	return s
}

// Has tells whether n is in the set.
func (s Set) Has(n int) bool { return fits(n) && s[n/width]>>(n%width)&1 == 1 }

// Len is how many numbers are in the set.
func (s Set) Len() int {
	sum := 0
	for _, word := range s {
		sum += bits.OnesCount64(word)
	}
	return sum
}

// Least is the least number of the set; -1: there is none.
func (s Set) Least() int {
	for w, word := range s {
		if word != 0 {
			return w*width + bits.TrailingZeros64(word)
		}
	}
	return -1
}

// List are the numbers of the set, rising.
func (s Set) List() []int {
	var l []int
	for w, word := range s {
		for ; word != 0; word &= word - 1 {
			l = append(l, w*width+bits.TrailingZeros64(word))
		}
	}
	return l
}

// In tells whether all of the set are in t.
func (s Set) In(t Set) bool { return s.Or(t) == t }

// With is the set and n; a number that may be in no set changes nothing.
func (s Set) With(n int) Set {
	if fits(n) {
		s[n/width] |= 1 << (n % width)
	}
	return s
}

// Less is the set without n.
func (s Set) Less(n int) Set {
	if fits(n) {
		s[n/width] &^= 1 << (n % width)
	}
	return s
}

// Or is what is in s or in t.
func (s Set) Or(t Set) Set {
	for w := range s {
		s[w] |= t[w]
	}
	return s
}

// And is what is in both.
func (s Set) And(t Set) Set {
	for w := range s {
		s[w] &= t[w]
	}
	return s
}

// Minus is what is in s and not in t.
func (s Set) Minus(t Set) Set {
	for w := range s {
		s[w] &^= t[w]
	}
	return s
}
