package measure

import (
	"bailiff/api"
	"bailiff/game"
)

// lifter lifts tuples until none moves any more. Positions have places in an order, and those that wait are lifted from the first place on.
type lifter struct {
	game   api.Game
	bound  [counters]int
	tuples []Tuple
	before [][]int
	order  []int
	place  []int
	waits  []bool
}

// Solve are the least tuples of all positions.
func Solve(g api.Game) []Tuple {
	if _, wrong := game.Right(g); wrong != api.OK {
		return nil
	}
	w := newLifter(g)
	for next := 0; next < len(w.order); {
		if w.waits[next] {
			next = w.liftAt(next)
		} else {
			next++
		}
	}
	return w.tuples
}

func newLifter(g api.Game) *lifter {
	n := len(g.Owner)
	w := &lifter{game: g, bound: bounds(g), tuples: make([]Tuple, n), before: make([][]int, n), order: inward(g), place: make([]int, n), waits: make([]bool, n)}
	for place, at := range w.order {
		w.place[at], w.waits[place] = place, true
		for _, to := range g.Moves[at] {
			w.before[to] = append(w.before[to], at)
		}
	}
	return w
}

// liftAt lifts the position at a place, and tells the first place that may wait then.
func (w *lifter) liftAt(place int) int {
	at := w.order[place]
	w.waits[place] = false
	made := lift(w.game, w.bound, w.tuples, at)
	if made == w.tuples[at] {
		return place
	}
	w.tuples[at] = made
	first := place
	for _, from := range w.before[at] {
		w.waits[w.place[from]] = true
		first = min(first, w.place[from])
	}
	return first
}

// inward are all positions, those ahead to which moves lead: so what others hang on comes to rest before they are lifted, where it doesn't hang on them.
func inward(g api.Game) []int {
	var order []int
	met := make([]bool, len(g.Owner))
	var walk func(at int)
	walk = func(at int) {
		if met[at] {
			return
		}
		met[at] = true
		for _, to := range g.Moves[at] {
			walk(to)
		}
		order = append(order, at)
	}
	for at := range g.Owner {
		walk(at)
	}
	return order
}
