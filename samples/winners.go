package samples

import (
	"bailiff/api"
)

// tries is how many strategies are tried at most.
const tries = 1 << 12

// Winners tells of each position of a right game whether player 0 wins there, by trying all its strategies; false: these are too many.
func Winners(g api.Game) ([]bool, bool) {
	if strategies(g) > tries {
		return nil, false
	}
	won, choice := make([]bool, len(g.Owner)), make([]int, len(g.Owner))
	for more := true; more; more = advance(g, choice) {
		for i, lost := range losers(g, choice) {
			won[i] = won[i] || !lost
		}
	}
	return won, true
}

// strategies is how many strategies player 0 has, or some number above tries.
func strategies(g api.Game) int {
	count := 1
	for i, moves := range g.Moves {
		if g.Owner[i] == 0 && count <= tries {
			count *= len(moves)
		}
	}
	return count
}

// advance goes on to the next strategy; false: there are no more.
func advance(g api.Game, choice []int) bool {
	for i := range choice {
		if g.Owner[i] == 1 {
			continue
		}
		choice[i]++
		if choice[i] < len(g.Moves[i]) {
			return true
		}
		choice[i] = 0
	}
	return false
}

// losers are the positions from which a cycle that an odd priority tops can be come to, if player 0 follows a strategy.
func losers(g api.Game, choice []int) []bool {
	next := make([][]int, len(g.Moves))
	for i, moves := range g.Moves {
		next[i] = moves
		if g.Owner[i] == 0 {
			next[i] = moves[choice[i] : choice[i]+1]
		}
	}
	lost := make([]bool, len(next))
	for i := range next {
		for _, bad := range reach(next, i, func(int) bool { return true }) {
			lost[i] = lost[i] || g.Priority[bad]%2 == 1 && topsCycle(next, g.Priority, bad)
		}
		if g.Priority[i]%2 == 1 && topsCycle(next, g.Priority, i) {
			lost[i] = true
		}
	}
	return lost
}

func topsCycle(next [][]int, priority []int, at int) bool {
	for _, to := range reach(next, at, func(i int) bool { return priority[i] <= priority[at] }) {
		if to == at {
			return true
		}
	}
	return false
}

// reach are the nodes that can be come to from one, by a step or more, through nodes that may be.
func reach(next [][]int, from int, may func(int) bool) []int {
	seen := make([]bool, len(next))
	var met []int
	for i := -1; i < len(met); i++ {
		at := from
		if i >= 0 {
			at = met[i]
		}
		for _, to := range next[at] {
			if may(to) && !seen[to] {
				seen[to] = true
				met = append(met, to)
			}
		}
	}
	return met
}
