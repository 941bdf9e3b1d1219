package samples

import (
	"bailiff/api"
)

// Game is a right game of so many positions, with priorities from 0 to top, and at most so many moves from each position.
func (s *Source) Game(positions, top, moves int) api.Game {
	var g api.Game
	for range positions {
		g.Owner = append(g.Owner, s.Below(2))
		g.Priority = append(g.Priority, s.Below(top+1))
		g.Moves = append(g.Moves, s.moves(positions, 1+s.Below(moves)))
	}
	return g
}

// moves are at most so many numbers below n, rising, and at least one.
func (s *Source) moves(n, most int) []int {
	in := make([]bool, n)
	for range most {
		in[s.Below(n)] = true
	}
	var l []int
	for i := range n {
		if in[i] {
			l = append(l, i)
		}
	}
	return l
}
