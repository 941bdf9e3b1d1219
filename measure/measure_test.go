package measure_test

import (
	"math"
	"slices"
	"testing"

	"bailiff/api"
	"bailiff/game"
	"bailiff/measure"
	"bailiff/samples"
)

type tuple = measure.Tuple

func c(a, b, c, d int) tuple { return tuple{C: [4]int{a, b, c, d}} }

func top(l ...int) tuple {
	t := tuple{Top: true}
	copy(t.C[:], l)
	return t
}

// sample is the chapter's game.
func sample() api.Game {
	return api.Game{Owner: []int{0, 1}, Priority: []int{1, 2}, Moves: [][]int{{0, 1}, {0}}}
}

func one(priority int) api.Game {
	return api.Game{Owner: []int{0}, Priority: []int{priority}, Moves: [][]int{{0}}}
}

func TestM1Compare(t *testing.T) {
	for _, x := range []struct {
		a, b     tuple
		priority int
		want     int
	}{
		{c(0, 0, 1, 0), c(9, 9, 0, 0), 0, 1}, {c(5, 0, 1, 0), c(6, 0, 1, 0), 2, 0}, {c(5, 0, 1, 0), c(6, 0, 1, 0), 1, -1}, {c(5, 0, 1, 0), c(6, 0, 1, 0), 0, -1}, {c(5, 0, 1, 0), c(6, 0, 1, 0), math.MinInt, -1},
		{c(0, 1, 0, 0), c(9, 0, 0, 0), 3, 1}, {c(0, 1, 0, 0), c(0, 0, 0, 0), 4, 0}, {c(0, 0, 0, 1), c(9, 9, 9, 0), 7, 1}, {c(0, 0, 0, 1), c(0, 0, 0, 0), 8, 0}, {c(0, 0, 0, 1), c(0, 0, 0, 0), math.MaxInt, 0},
		{c(1, 2, 3, 4), c(1, 2, 3, 4), 0, 0}, {c(0, 0, 0, -1), c(0, 0, 0, 0), 0, -1}, {c(0, 0, 7, 5), c(0, 0, 8, 5), 5, -1}, {c(0, 0, 7, 5), c(0, 0, 8, 5), 6, 0},
		{top(), top(), 0, 0}, {top(1), top(2), 0, 0}, {top(), c(9, 9, 9, 9), 0, 1}, {top(), c(9, 9, 9, 9), 8, 1}, {c(9, 9, 9, 9), top(), 99, -1}, {c(0, 0, 0, 0), top(9), 0, -1},
	} {
		if got := measure.Compare(x.a, x.b, x.priority); got != x.want {
			t.Errorf("M1: %v and %v from %d: %d", x.a, x.b, x.priority, got)
		}
		if got := measure.Compare(x.b, x.a, x.priority); got != -x.want {
			t.Errorf("M1: %v and %v from %d: %d", x.b, x.a, x.priority, got)
		}
	}
}

func TestM2Examples(t *testing.T) {
	g := sample()
	if got := measure.Up(g, 1, tuple{}); got != c(1, 0, 0, 0) {
		t.Errorf("M2: %v", got)
	}
	if got := measure.Up(g, 1, c(1, 0, 0, 0)); got != top() {
		t.Errorf("M2: %v", got)
	}
	if got := measure.Up(g, 2, c(1, 0, 0, 0)); got != (tuple{}) {
		t.Errorf("M2: %v", got)
	}
}

func TestM2Up(t *testing.T) {
	// Two positions of each of 1, 3 and 5, one of 7; the rest is of no account.
	g := api.Game{Priority: []int{1, 3, 5, 7, 1, 3, 5, 0, 2, -1, 9}}
	for _, x := range []struct {
		priority int
		t, want  tuple
	}{
		{1, c(0, 0, 0, 0), c(1, 0, 0, 0)}, {1, c(1, 2, 2, 1), c(2, 2, 2, 1)}, {1, c(2, 0, 1, 0), c(0, 1, 1, 0)}, {1, c(2, 2, 0, 0), c(0, 0, 1, 0)}, {1, c(2, 2, 2, 0), c(0, 0, 0, 1)}, {1, c(2, 2, 2, 1), top()},
		{3, c(2, 0, 1, 0), c(0, 1, 1, 0)}, {3, c(1, 2, 1, 1), c(0, 0, 2, 1)}, {3, c(0, 2, 2, 1), top()}, {3, c(2, 2, 2, 0), c(0, 0, 0, 1)}, {5, c(2, 2, 1, 1), c(0, 0, 2, 1)}, {5, c(2, 2, 2, 0), c(0, 0, 0, 1)}, {5, c(0, 0, 2, 1), top()},
		{7, c(1, 1, 1, 0), c(0, 0, 0, 1)}, {7, c(0, 0, 0, 1), top()}, {9, c(0, 0, 0, 0), top()}, {math.MaxInt, c(1, 1, 1, 1), top()},
		{0, c(1, 2, 1, 1), c(1, 2, 1, 1)}, {2, c(1, 2, 1, 1), c(0, 2, 1, 1)}, {4, c(1, 2, 1, 1), c(0, 0, 1, 1)}, {6, c(1, 2, 1, 1), c(0, 0, 0, 1)}, {8, c(1, 2, 1, 1), c(0, 0, 0, 0)}, {math.MaxInt - 1, c(1, 2, 1, 1), c(0, 0, 0, 0)},
		{-1, c(0, 0, 0, 0), c(1, 0, 0, 0)}, {-7, c(2, 0, 0, 0), c(0, 1, 0, 0)}, {-2, c(1, 2, 1, 1), c(1, 2, 1, 1)}, {math.MinInt, c(1, 2, 1, 1), c(1, 2, 1, 1)}, {math.MinInt + 1, c(2, 2, 2, 1), top()},
		{1, c(9, 0, 0, 0), c(0, 1, 0, 0)}, {1, c(-5, 7, 0, 0), c(-4, 7, 0, 0)}, {3, c(9, 9, -1, 9), c(0, 0, 0, 9)}, {2, c(9, 9, 9, 9), c(0, 9, 9, 9)}, {1, c(9, 9, 9, 9), top()},
		{0, top(3, 3, 3, 3), top()}, {1, top(1), top()}, {8, top(1), top()},
	} {
		if got := measure.Up(g, x.priority, x.t); got != x.want {
			t.Errorf("M2: of priority %d ahead of %v: %v, want %v", x.priority, x.t, got, x.want)
		}
	}
	if got := measure.Up(api.Game{}, 1, tuple{}); got != top() {
		t.Errorf("M2: of no game: %v", got)
	}
	if got := measure.Up(api.Game{}, 2, c(1, 2, 3, 4)); got != c(0, 2, 3, 4) {
		t.Errorf("M2: of no game: %v", got)
	}
}

func TestM3Lift(t *testing.T) {
	g := api.Game{Owner: []int{0, 1, 0, 1}, Priority: []int{1, 0, 2, 3}, Moves: [][]int{{1, 2, 3}, {1, 2, 3}, {0, 3}, {3}}}
	for _, x := range []struct {
		l    []tuple
		at   int
		want tuple
	}{
		{[]tuple{{}, {}, {}, {}}, 0, c(1, 0, 0, 0)}, {[]tuple{{}, {}, {}, {}}, 1, c(0, 0, 0, 0)}, {[]tuple{{}, {}, {}, {}}, 3, c(0, 1, 0, 0)},
		{[]tuple{{}, c(1, 0, 0, 0), c(0, 1, 0, 0), top()}, 0, c(0, 1, 0, 0)}, {[]tuple{{}, c(1, 0, 0, 0), c(0, 1, 0, 0), {}}, 1, c(0, 1, 0, 0)}, {[]tuple{{}, {}, {}, top(7)}, 1, top()},
		{[]tuple{c(0, 1, 0, 0), {}, {}, {}}, 0, c(0, 1, 0, 0)}, {[]tuple{c(5, 6, 7, 8), {}, {}, {}}, 0, c(5, 6, 7, 8)}, {[]tuple{top(4), {}, {}, {}}, 0, top(4)}, {[]tuple{c(1, 1, 0, 0), {}, {}, c(1, 0, 0, 0)}, 2, c(0, 0, 0, 0)},
		{[]tuple{{}, {}, {}, c(0, 1, 0, 0)}, 3, top()}, {[]tuple{{}, c(1, 1, 0, 0), c(1, 1, 0, 0), c(1, 1, 0, 0)}, 0, top()},
	} {
		before := slices.Clone(x.l)
		if got := measure.Lift(g, x.l, x.at); got != x.want || !slices.Equal(x.l, before) {
			t.Errorf("M3: %v at %d: %v, want %v", before, x.at, got, x.want)
		}
	}
	wrong := sample()
	wrong.Owner[0] = 2
	full := []tuple{c(1, 1, 1, 1), c(1, 1, 1, 1)}
	for i, x := range []struct {
		g  api.Game
		l  []tuple
		at int
	}{{wrong, full, 0}, {api.Game{}, nil, 0}, {sample(), full[:1], 0}, {sample(), nil, 0}, {sample(), append(full, full...), 0}, {sample(), full, 2}, {sample(), full, -1}, {sample(), full, math.MinInt}} {
		if got := measure.Lift(x.g, x.l, x.at); got != (tuple{}) {
			t.Errorf("M3: what may not be lifted, %d: %v", i, got)
		}
	}
}

func TestM3SolveExamples(t *testing.T) {
	if got := measure.Solve(sample()); !slices.Equal(got, []tuple{c(1, 0, 0, 0), {}}) {
		t.Errorf("M3: %v", got)
	}
	for priority := range api.MaxPriority + 1 {
		want := tuple{Top: priority%2 == 1}
		if got := measure.Solve(one(priority)); !slices.Equal(got, []tuple{want}) {
			t.Errorf("M3: of priority %d: %v", priority, got)
		}
	}
	wrong := sample()
	wrong.Moves[0] = nil
	for i, g := range []api.Game{{}, wrong, {Owner: []int{0}}} {
		if got := measure.Solve(g); len(got) != 0 {
			t.Errorf("M3: of the wrong game %d: %v", i, got)
		}
		if region, moves := measure.Even(g, make([]tuple, len(g.Owner))); len(region)+len(moves) != 0 {
			t.Errorf("M4: of the wrong game %d: %v, %v", i, region, moves)
		}
	}
}

func TestM4Even(t *testing.T) {
	g := sample()
	for i, x := range []struct {
		l             []tuple
		region, moves []int
	}{
		{measure.Solve(g), []int{0, 1}, []int{1, -1}}, {[]tuple{{}, {}}, []int{0, 1}, []int{0, -1}}, {[]tuple{{}, top()}, []int{0}, []int{0, -1}}, {[]tuple{top(), {}}, []int{1}, []int{-1, -1}},
		{[]tuple{c(1, 0, 0, 0), c(9, 0, 0, 0)}, []int{0, 1}, []int{0, -1}}, {[]tuple{c(1, 0, 0, 0), c(0, 0, 0, 0)}, []int{0, 1}, []int{1, -1}}, {[]tuple{top(), top(2)}, nil, []int{-1, -1}},
		{nil, nil, nil}, {[]tuple{{}}, nil, nil}, {[]tuple{{}, {}, {}}, nil, nil},
	} {
		region, moves := measure.Even(g, x.l)
		if !slices.Equal(region, x.region) || !slices.Equal(moves, x.moves) {
			t.Errorf("M4: %d: %v, %v", i, region, moves)
		}
	}
	if region, moves := measure.Even(one(1), measure.Solve(one(1))); len(region) != 0 || !slices.Equal(moves, []int{-1}) {
		t.Errorf("M4: of one position of priority 1: %v, %v", region, moves)
	}
}

// swept are the tuples that come out of others, when all positions are lifted in turn, from the last to the first one or from the first to the last one.
func swept(t *testing.T, g api.Game, begin []tuple, backward bool) []tuple {
	l := slices.Clone(begin)
	for moved := true; moved; {
		moved = false
		for i := range l {
			at := i
			if backward {
				at = len(l) - 1 - i
			}
			lifted := measure.Lift(g, l, at)
			if measure.Compare(lifted, l[at], 0) < 0 {
				t.Fatalf("P5: a lift of %v makes %v less", g, l[at])
			}
			moved = moved || lifted != l[at]
			l[at] = lifted
		}
	}
	return l
}

func TestM3WhateverOrder(t *testing.T) {
	for i := range 400 {
		source := samples.New(i)
		g := source.Game(1+source.Below(14), source.Below(8), 3)
		l := measure.Solve(g)
		begin := make([]tuple, len(g.Owner))
		if !slices.Equal(l, swept(t, g, begin, false)) || !slices.Equal(l, swept(t, g, begin, true)) {
			t.Fatalf("M3: %v: %v", g, l)
		}
		for at := range l {
			if measure.Lift(g, l, at) != l[at] {
				t.Fatalf("M3: %v: %v is lifted at %d", g, l, at)
			}
			for place, count := range l[at].C {
				if count < 0 || count > countOf(g, 2*place+1) || l[at].Top && count != 0 {
					t.Fatalf("P5: %v: the tuple %v", g, l[at])
				}
			}
		}
	}
}

func countOf(g api.Game, priority int) int {
	n := 0
	for _, p := range g.Priority {
		if p == priority {
			n++
		}
	}
	return n
}

func TestFollowsLeast(t *testing.T) {
	for i := range 300 {
		source := samples.New(i)
		g := source.Game(1+source.Below(8), source.Below(8), 3)
		l := measure.Solve(g)
		begin := make([]tuple, len(l))
		for at := range begin {
			begin[at] = c(source.Below(3), source.Below(3), source.Below(2), source.Below(2))
			if source.Chance(1, 6) {
				begin[at] = top()
			}
		}
		for at, other := range swept(t, g, begin, false) {
			if measure.Compare(other, l[at], 0) < 0 {
				t.Fatalf("M3: %v: no lift changes %v at %d, which is below %v", g, other, at, l[at])
			}
		}
	}
}

func TestP5Winners(t *testing.T) {
	tried := 0
	for i := range 1500 {
		source := samples.New(i)
		g := source.Game(1+source.Below(9), source.Below(8), 3)
		region, moves := measure.Even(g, measure.Solve(g))
		won, ok := samples.Winners(g)
		if !ok {
			continue
		}
		tried++
		for at := range won {
			if won[at] != slices.Contains(region, at) {
				t.Fatalf("P5: %v: player 0 wins at %v, not at %v", g, won, region)
			}
		}
		fewer := game.Copy(g)
		for at, move := range moves {
			if mine := won[at] && g.Owner[at] == 0; mine != (move != -1) {
				t.Fatalf("M4: %v: the move %d at %d", g, move, at)
			}
			if move != -1 {
				fewer.Moves[at] = []int{move}
			}
		}
		if still, ok := samples.Winners(fewer); !ok || !slices.Equal(still, won) {
			t.Fatalf("P5: %v: the moves %v don't win", g, moves)
		}
	}
	if tried < 800 {
		t.Errorf("only %d games were tried", tried)
	}
}

// star is a game of n positions, all of which move to the first one, which stays at priority 1.
func star(n int) api.Game {
	var g api.Game
	for i := range n {
		g.Owner = append(g.Owner, i%2)
		g.Priority = append(g.Priority, []int{1, 3, 5, 7, 0, 2, 4, 6}[i%8])
		g.Moves = append(g.Moves, []int{0})
	}
	return g
}

// ring is a game of n positions of one priority, each of which moves to the next one.
func ring(n, priority int) api.Game {
	g := star(n)
	for i := range n {
		g.Priority[i], g.Moves[i] = priority, []int{(i + 1) % n}
	}
	return g
}

func TestM3Large(t *testing.T) {
	for i, g := range []api.Game{star(40), ring(api.MaxPositions, 1), ring(api.MaxPositions, 7)} {
		for at, tuple := range measure.Solve(g) {
			if tuple != top() {
				t.Fatalf("M3: game %d: %v at %d", i, tuple, at)
			}
		}
	}
	long := ring(api.MaxPositions, 7)
	last := api.MaxPositions - 1
	long.Priority[last], long.Moves[last] = 0, []int{last}
	for at, tuple := range measure.Solve(long) {
		if tuple != c(0, 0, 0, last-at) {
			t.Fatalf("M3: %v at %d", tuple, at)
		}
	}
	for i := range 20 {
		source := samples.New(i)
		g := source.Game(60, source.Below(8), 1+source.Below(4))
		l := measure.Solve(g)
		for at := range l {
			if measure.Lift(g, l, at) != l[at] {
				t.Fatalf("M3: a lift changes what was solved, at %d", at)
			}
		}
	}
}

func TestR5(t *testing.T) {
	g := sample()
	l := measure.Solve(g)
	region, moves := measure.Even(g, l)
	region[0], moves[0], l[0] = 9, 9, top()
	if !slices.Equal(measure.Solve(g), []tuple{c(1, 0, 0, 0), {}}) || !slices.EqualFunc(g.Moves, sample().Moves, slices.Equal[[]int]) {
		t.Error("R5: a game was written into, or an answer kept")
	}
}
