package measure

import (
	"bailiff/api"
	"bailiff/game"
)

// none is the move of a position that has none.
const none = -1

// Lift is what a position's moves make of its tuple.
func Lift(g api.Game, l []Tuple, at int) Tuple {
	if !fits(g, l) || at < 0 || at >= len(l) {
		return Tuple{}
	}
	return lift(g, bounds(g), l, at)
}

// Even is the region of player 0 by tuples, and the moves by which.
func Even(g api.Game, l []Tuple) ([]int, []int) {
	if !fits(g, l) {
		return nil, nil
	}
	bound := bounds(g)
	var region []int
	moves := make([]int, len(l))
	for at, t := range l {
		moves[at] = none
		if t.Top {
			continue
		}
		region = append(region, at)
		if g.Owner[at] == 0 {
			moves[at], _ = choose(g, bound, l, at)
		}
	}
	return region, moves
}

// fits tells whether a list has a tuple for each position of a right game.
func fits(g api.Game, l []Tuple) bool {
	_, wrong := game.Right(g)
	return wrong == api.OK && len(l) == len(g.Owner)
}

func lift(g api.Game, bound [counters]int, l []Tuple, at int) Tuple {
	_, made := choose(g, bound, l, at)
	if Compare(l[at], made, 0) < 0 {
		return made
	}
	return l[at]
}

// choose is the first of a position's moves that its owner likes best, and what it makes of the position's tuple.
func choose(g api.Game, bound [counters]int, l []Tuple, at int) (int, Tuple) {
	move, best := none, Tuple{}
	for _, to := range g.Moves[at] {
		made := up(bound, g.Priority[at], l[to])
		order := Compare(made, best, 0)
		if move == none || g.Owner[at] == 0 && order < 0 || g.Owner[at] == 1 && order > 0 {
			move, best = to, made
		}
	}
	return move, best
}
