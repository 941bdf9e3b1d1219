package attract_test

import (
	"slices"
	"testing"

	"bailiff/api"
	"bailiff/attract"
	"bailiff/samples"
	"bailiff/sets"
)

// sample is the chapter's game.
func sample() api.Game {
	return api.Game{Owner: []int{0, 1, 1, 0}, Priority: []int{0, 0, 0, 0}, Moves: [][]int{{0, 1}, {2}, {0, 3}, {3}}}
}

func TestA1Examples(t *testing.T) {
	g, all := sample(), sets.Full(4)
	for _, c := range []struct {
		in     sets.Set
		player int
		to     sets.Set
		want   sets.Set
		moves  []int
	}{
		{all, 0, sets.Of(3), sets.Of(3), []int{-1, -1, -1, -1}}, {all, 1, sets.Of(3), sets.Of(1, 2, 3), []int{-1, 2, 3, -1}}, {all, 0, sets.Of(2), sets.Of(0, 1, 2), []int{1, -1, -1, -1}},
		{sets.Of(0, 1), 0, sets.Of(1), sets.Of(0, 1), []int{1, -1, -1, -1}}, {sets.Full(256), 1, sets.Of(3, 4, 255), sets.Of(1, 2, 3), []int{-1, 2, 3, -1}},
		{all, 0, sets.Of(), sets.Of(), []int{-1, -1, -1, -1}}, {sets.Of(), 0, all, sets.Of(), []int{-1, -1, -1, -1}}, {all, 1, all, all, []int{-1, -1, -1, -1}},
		{sets.Of(0, 1, 2), 0, sets.Of(3), sets.Of(), []int{-1, -1, -1, -1}}, {sets.Of(2, 3), 0, sets.Of(3), sets.Of(2, 3), []int{-1, -1, -1, -1}},
		{sets.Of(1), 0, sets.Of(2), sets.Of(), []int{-1, -1, -1, -1}}, {sets.Of(1, 3), 0, sets.Of(3), sets.Of(3), []int{-1, -1, -1, -1}}, {all, 1, sets.Of(0), sets.Of(0, 1, 2), []int{-1, 2, 0, -1}},
	} {
		if got, moves := attract.Attract(g, c.in, c.player, c.to); got != c.want || !slices.Equal(moves, c.moves) {
			t.Errorf("A1: to %v by %d in %v: %v, %v", c.to.List(), c.player, c.in.List(), got.List(), moves)
		}
	}
}

func TestA1Nothing(t *testing.T) {
	all := sets.Full(256)
	for _, player := range []int{-1, 2, 7} {
		if set, moves := attract.Attract(sample(), all, player, all); set != (sets.Set{}) || len(moves) != 0 {
			t.Errorf("A1: by player %d: %v, %v", player, set.List(), moves)
		}
	}
	stuck, far, few := sample(), sample(), sample()
	stuck.Moves[1], far.Moves[1], few.Owner = nil, []int{4}, nil
	for i, g := range []api.Game{{}, stuck, far, few} {
		if set, moves := attract.Attract(g, all, 0, all); set != (sets.Set{}) || len(moves) != 0 {
			t.Errorf("A1: of the wrong game %d: %v, %v", i, set.List(), moves)
		}
	}
}

// byWords is the least set, grown from the positions of to until nothing more is forced into it.
func byWords(g api.Game, in sets.Set, player int, to sets.Set) sets.Set {
	set := to.And(in).And(sets.Full(len(g.Owner)))
	for grown := true; grown; {
		grown = false
		for at, moves := range g.Moves {
			into, out := 0, 0
			for _, to := range moves {
				switch {
				case set.Has(to):
					into++
				case in.Has(to):
					out++
				}
			}
			if in.Has(at) && !set.Has(at) && into > 0 && (g.Owner[at] == player || out == 0) {
				set, grown = set.With(at), true
			}
		}
	}
	return set
}

// checkMoves looks whether moves stand where they must, count, and lead into a set in the end, whatever the other player does.
func checkMoves(t *testing.T, g api.Game, in sets.Set, player int, to, set sets.Set, moves []int) {
	t.Helper()
	if len(moves) != len(g.Owner) {
		t.Fatalf("A1: %d moves", len(moves))
	}
	home := to.And(set)
	for range g.Owner {
		for at := range g.Owner {
			may := inside(g, in, at)
			if g.Owner[at] == player {
				may = []int{moves[at]}
			}
			out := slices.ContainsFunc(may, func(to int) bool { return !home.Has(to) })
			if set.Has(at) && len(may) > 0 && !out {
				home = home.With(at)
			}
		}
	}
	for at, move := range moves {
		moves := set.Has(at) && !to.Has(at) && g.Owner[at] == player
		if moves != (move != -1) || moves && (!slices.Contains(g.Moves[at], move) || !set.Has(move)) {
			t.Fatalf("A1: at %d the move %d of %v", at, move, g)
		}
	}
	if home != set {
		t.Fatalf("A1: by the moves %v one comes in from %v alone, of %v", moves, home.List(), set.List())
	}
}

func inside(g api.Game, in sets.Set, at int) []int {
	return slices.DeleteFunc(slices.Clone(g.Moves[at]), func(to int) bool { return !in.Has(to) })
}

func TestFollows(t *testing.T) {
	for i := range 800 {
		source := samples.New(i)
		g := source.Game(1+source.Below(30), 3, 4)
		in := sets.Set{source.Word() | source.Word() | source.Word(), source.Word()}
		to, player := sets.Set{source.Word() & source.Word() & source.Word()}, source.Below(2)
		set, moves := attract.Attract(g, in, player, to)
		if want := byWords(g, in, player, to); set != want {
			t.Fatalf("A1: %v by %d in %v: %v, not %v", g, player, in.List(), set.List(), want.List())
		}
		checkMoves(t, g, in, player, to, set, moves)
		if again, moves := attract.Attract(g, in, player, set); again != set || slices.Max(moves) != -1 {
			t.Fatalf("A1: of the set itself: %v, %v", again.List(), moves)
		}
		greater := to.Or(sets.Set{source.Word() & source.Word()})
		if more, _ := attract.Attract(g, in, player, greater); !set.In(more) {
			t.Fatalf("A1: a greater set: %v, not %v", more.List(), set.List())
		}
	}
}

func TestR5(t *testing.T) {
	g := sample()
	_, moves := attract.Attract(g, sets.Full(4), 1, sets.Of(3))
	moves[0] = 9
	if !slices.EqualFunc(g.Moves, sample().Moves, slices.Equal[[]int]) || !slices.Equal(g.Owner, sample().Owner) {
		t.Error("R5: a game was written into")
	}
}
