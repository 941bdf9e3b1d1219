package decomp_test

import (
	"slices"
	"testing"

	"bailiff/api"
	"bailiff/decomp"
	"bailiff/game"
	"bailiff/samples"
	"bailiff/sets"
)

// sample is the chapter's second game.
func sample() api.Game {
	return api.Game{Owner: []int{0, 1}, Priority: []int{0, 1}, Moves: [][]int{{0, 1}, {0, 1}}}
}

func one(owner, priority int) api.Game {
	return api.Game{Owner: []int{owner}, Priority: []int{priority}, Moves: [][]int{{0}}}
}

func TestZ1Examples(t *testing.T) {
	for owner := range 2 {
		for priority := range api.MaxPriority + 1 {
			c, deep := decomp.Solve(one(owner, priority))
			winner := priority % 2
			move := []int{-1}
			if owner == winner {
				move[0] = 0
			}
			if !slices.Equal(c.Regions[winner], []int{0}) || len(c.Regions[1-winner]) != 0 || !slices.Equal(c.Moves[winner], move) || !slices.Equal(c.Moves[1-winner], []int{-1}) || deep < 1 || deep > 2 {
				t.Errorf("Z1: one position of owner %d and priority %d: %v, %d", owner, priority, c, deep)
			}
		}
	}
	c, deep := decomp.Solve(sample())
	if !slices.Equal(c.Regions[0], []int{0}) || !slices.Equal(c.Regions[1], []int{1}) || !slices.Equal(c.Moves[0], []int{0, -1}) || !slices.Equal(c.Moves[1], []int{-1, 1}) || deep < 1 || deep > 3 {
		t.Errorf("Z1: %v, %d", c, deep)
	}
}

func TestZ1Nothing(t *testing.T) {
	owner, priority, stuck, far := sample(), sample(), sample(), sample()
	owner.Owner[1], priority.Priority[0], stuck.Moves[0], far.Moves[1] = 2, 8, nil, []int{2}
	many := api.Game{Owner: make([]int, 201), Priority: make([]int, 201), Moves: make([][]int, 201)}
	for i := range many.Moves {
		many.Moves[i] = []int{i}
	}
	for i, g := range []api.Game{{}, owner, priority, stuck, far, many, {Owner: []int{0}}} {
		c, deep := decomp.Solve(g)
		if len(c.Regions[0])+len(c.Regions[1])+len(c.Moves[0])+len(c.Moves[1]) != 0 || deep != 0 {
			t.Errorf("Z1: of the wrong game %d: %v, %d", i, c, deep)
		}
	}
}

// checkClaim looks whether regions part a right game's positions, whether the moves stand where they must, and whether they win.
func checkClaim(t *testing.T, g api.Game, c api.Claim) {
	t.Helper()
	both := append(slices.Clone(c.Regions[0]), c.Regions[1]...)
	slices.Sort(both)
	if !slices.Equal(both, sets.Full(len(g.Owner)).List()) || !slices.IsSorted(c.Regions[0]) || !slices.IsSorted(c.Regions[1]) {
		t.Fatalf("P3: the regions %v of %v", c.Regions, g)
	}
	for player := range 2 {
		region := sets.Of(c.Regions[player]...)
		if len(c.Moves[player]) != len(g.Owner) {
			t.Fatalf("Z1: %d moves of %v", len(c.Moves[player]), g)
		}
		for at, move := range c.Moves[player] {
			if has := region.Has(at) && g.Owner[at] == player; has != (move != -1) || has && (!slices.Contains(g.Moves[at], move) || !region.Has(move)) {
				t.Fatalf("Z1: player %d's move %d at %d of %v", player, move, at, g)
			}
		}
		checkWins(t, g, c, player)
	}
}

// checkWins looks whether all plays from a region that follow its moves stay there, and have no cycle that the other player's parity tops.
func checkWins(t *testing.T, g api.Game, c api.Claim, player int) {
	t.Helper()
	region := sets.Of(c.Regions[player]...)
	next := func(at int) []int {
		if g.Owner[at] == player {
			return c.Moves[player][at : at+1]
		}
		return g.Moves[at]
	}
	for _, at := range c.Regions[player] {
		var met sets.Set
		for queue := []int{at}; len(queue) > 0; queue = queue[1:] {
			for _, to := range next(queue[0]) {
				if !region.Has(to) {
					t.Fatalf("P3: a play leaves the region of player %d at %d of %v", player, queue[0], g)
				}
				if g.Priority[to] <= g.Priority[at] && !met.Has(to) {
					met = met.With(to)
					queue = append(queue, to)
				}
			}
		}
		if met.Has(at) && g.Priority[at]%2 != player {
			t.Fatalf("P3: player %d loses on a cycle through %d of %v, by %v", player, at, g, c)
		}
	}
}

func TestP3Winners(t *testing.T) {
	tried := 0
	for i := range 2000 {
		source := samples.New(i)
		g := source.Game(1+source.Below(9), 1+source.Below(7), 3)
		c, deep := decomp.Solve(g)
		checkClaim(t, g, c)
		if deep < 1 || deep > len(g.Owner)+1 {
			t.Fatalf("Z1: %v is taken apart %d deep", g, deep)
		}
		won, ok := samples.Winners(g)
		if !ok {
			continue
		}
		tried++
		for at := range won {
			if won[at] != slices.Contains(c.Regions[0], at) {
				t.Fatalf("Z1: %v: %v, and player 0 wins at %v", g, c, won)
			}
		}
	}
	if tried < 1000 {
		t.Errorf("only %d games were tried", tried)
	}
}

func TestP3Large(t *testing.T) {
	for i := range 60 {
		source := samples.New(i)
		g := source.Game(api.MaxPositions-source.Below(2), 1+source.Below(7), 1+source.Below(4))
		c, deep := decomp.Solve(g)
		checkClaim(t, g, c)
		if deep < 1 || deep > len(g.Owner)+1 {
			t.Fatalf("Z1: taken apart %d deep", deep)
		}
	}
}

// turned is a game whose positions are numbered the other way round.
func turned(g api.Game) api.Game {
	turned := game.Copy(g)
	slices.Reverse(turned.Owner)
	slices.Reverse(turned.Priority)
	slices.Reverse(turned.Moves)
	for _, moves := range turned.Moves {
		for i := range moves {
			moves[i] = len(g.Owner) - 1 - moves[i]
		}
		slices.Reverse(moves)
	}
	return turned
}

func TestFollows(t *testing.T) {
	for i := range 300 {
		source := samples.New(i)
		g := source.Game(1+source.Below(40), source.Below(7), 3)
		c, _ := decomp.Solve(g)
		if dual := game.Dual(g); len(dual.Owner) > 0 {
			other, _ := decomp.Solve(dual)
			if !slices.Equal(c.Regions[0], other.Regions[1]) || !slices.Equal(c.Regions[1], other.Regions[0]) {
				t.Fatalf("P6: the dual of %v", g)
			}
		}
		other, _ := decomp.Solve(turned(g))
		for at := range g.Owner {
			if slices.Contains(c.Regions[0], at) != slices.Contains(other.Regions[0], len(g.Owner)-1-at) {
				t.Fatalf("Z1: the numbers of %v matter", g)
			}
		}
		if slices.Max(g.Priority)+2 <= api.MaxPriority {
			higher := game.Copy(g)
			for at := range higher.Priority {
				higher.Priority[at] += 2
			}
			other, _ = decomp.Solve(higher)
			if !slices.Equal(c.Regions[0], other.Regions[0]) {
				t.Fatalf("Z1: each priority of %v two more", g)
			}
		}
		fewer := game.Copy(g)
		for player := range 2 {
			for at, move := range c.Moves[player] {
				if move != -1 {
					fewer.Moves[at] = []int{move}
				}
			}
		}
		other, _ = decomp.Solve(fewer)
		if !slices.Equal(c.Regions[0], other.Regions[0]) || !slices.Equal(c.Regions[1], other.Regions[1]) {
			t.Fatalf("Z1: the winners' moves alone of %v", g)
		}
	}
}

func TestR5(t *testing.T) {
	g := sample()
	c, _ := decomp.Solve(g)
	_, _ = append(c.Regions[0], 99), append(c.Regions[1], 99)
	_, _ = append(c.Moves[0], 99), append(c.Moves[1], 99)
	for player := range 2 {
		if slices.Contains(c.Regions[player], 99) || slices.Contains(c.Moves[player], 99) {
			t.Error("R5: two lists of one answer share memory")
		}
	}
	c.Moves[0][0], c.Regions[0][0] = 9, 9
	if !slices.EqualFunc(g.Moves, sample().Moves, slices.Equal[[]int]) || !slices.Equal(g.Owner, []int{0, 1}) || !slices.Equal(g.Priority, []int{0, 1}) {
		t.Error("R5: a game was written into")
	}
}
