package judge_test

import (
	"math"
	"slices"
	"testing"

	"bailiff/api"
	"bailiff/decomp"
	"bailiff/game"
	"bailiff/judge"
	"bailiff/samples"
)

// sample is chapter 13's second game.
func sample() api.Game {
	return api.Game{Owner: []int{0, 1}, Priority: []int{0, 1}, Moves: [][]int{{0, 1}, {0, 1}}}
}

func claim(even, odd, moves, others []int) api.Claim {
	return api.Claim{Regions: [2][]int{even, odd}, Moves: [2][]int{moves, others}}
}

func verdict(err api.Errno, player, at int) api.Verdict {
	return api.Verdict{Err: err, Player: player, At: at}
}

func l(l ...int) []int { return l }

func TestJ1Examples(t *testing.T) {
	for i, x := range []struct {
		c    api.Claim
		want api.Verdict
	}{
		{claim(l(0), l(1), l(0, -1), l(-1, 1)), verdict(api.OK, 0, 0)}, {claim(l(0), l(1), l(1, -1), l(-1, 1)), verdict(api.ErrLeave, 0, 0)}, {claim(l(0), l(1), l(7, -1), l(-1, 1)), verdict(api.ErrMove, 0, 0)},
		{claim(l(0, 1), nil, l(0, -1), nil), verdict(api.ErrCycle, 0, 1)}, {claim(l(0), nil, l(0, -1), nil), verdict(api.ErrPart, 0, 1)}, {claim(l(0, 1), l(5), l(0, -1), nil), verdict(api.ErrPart, 1, 5)},
		{claim(l(0), l(1), l(0, 99), l(77, 1)), verdict(api.OK, 0, 0)}, {claim(l(0), l(1), l(0), l(-1, 1, 5, 5, 5)), verdict(api.OK, 0, 0)}, {claim(l(0), l(1), nil, l(-1, 1)), verdict(api.ErrMove, 0, 0)}, {claim(l(0), l(1), l(0), l(0)), verdict(api.ErrMove, 1, 1)},
		{claim(l(0), l(1), l(-1), l(-1, -1)), verdict(api.ErrMove, 0, 0)}, {claim(l(0), l(1), l(0), l(-1, 0)), verdict(api.ErrLeave, 1, 1)}, {claim(l(0), l(1), l(0), l(-1, math.MinInt)), verdict(api.ErrMove, 1, 1)},
		{claim(l(1), l(0), l(1, 1), l(0, 0)), verdict(api.ErrLeave, 0, 1)}, {claim(nil, l(0, 1), nil, l(0, 0)), verdict(api.ErrCycle, 1, 0)}, {claim(nil, l(1, 0), nil, l(-1, 1)), verdict(api.ErrCycle, 1, 0)},
		{claim(nil, nil, nil, nil), verdict(api.ErrPart, 0, 0)}, {claim(l(0, 0), l(1), l(0), l(1, 1)), verdict(api.ErrPart, 0, 0)}, {claim(l(0, 1), l(1), l(0), l(1, 1)), verdict(api.ErrPart, 0, 1)}, {claim(l(0), l(1, 1), l(0), l(1, 1)), verdict(api.ErrPart, 0, 1)},
		{claim(l(0, 9, -3), l(1, 5), nil, nil), verdict(api.ErrPart, 0, 9)}, {claim(l(-1, 0, 1), l(2), nil, nil), verdict(api.ErrPart, 0, -1)}, {claim(l(0), l(2, 1, -1), nil, nil), verdict(api.ErrPart, 1, 2)}, {claim(l(9, 0), l(7), nil, nil), verdict(api.ErrPart, 0, 1)},
		{claim(l(0), l(math.MinInt, 1), nil, nil), verdict(api.ErrPart, 1, math.MinInt)}, {claim(l(0, 2, 2), l(1), nil, nil), verdict(api.ErrPart, 0, 2)},
	} {
		if got := judge.Judge(sample(), x.c); got != x.want {
			t.Errorf("J1: %d: %v, want %v", i, got, x.want)
		}
	}
}

func TestJ1WrongGame(t *testing.T) {
	owner, stuck := sample(), sample()
	owner.Owner[1], stuck.Moves[1] = 2, nil
	for i, g := range []api.Game{{}, owner, stuck, {Owner: l(0), Priority: l(0)}} {
		for _, c := range []api.Claim{{}, claim(l(0), l(1), l(0, -1), l(-1, 1)), claim(l(0, 0, 7), l(-1), nil, nil)} {
			if got := judge.Judge(g, c); got != verdict(api.ErrArg, 0, 0) {
				t.Errorf("J1: of the wrong game %d: %v", i, got)
			}
		}
	}
}

// The moves of both players are looked at ahead of cycles, each player's in the order of positions.
func TestJ1Order(t *testing.T) {
	g := api.Game{Owner: l(0, 1, 0, 1), Priority: l(1, 2, 2, 1), Moves: [][]int{{0, 1, 2}, {1, 2}, {2, 3}, {2, 3}}}
	for i, x := range []struct {
		c    api.Claim
		want api.Verdict
	}{
		{claim(l(2, 1, 0), l(3), l(2, -1, 2), l(-1, -1, -1, 3)), verdict(api.OK, 0, 0)}, {claim(l(2, 1, 0), l(3), l(0, -1, 2), l(-1, -1, -1, 3)), verdict(api.ErrCycle, 0, 0)}, {claim(l(2, 1, 0), l(3), l(0, -1, 2), l(-1, -1, -1, 2)), verdict(api.ErrLeave, 1, 3)},
		{claim(l(2, 1, 0), l(3), l(0, -1, 3), l(-1, -1, -1, 7)), verdict(api.ErrLeave, 0, 2)}, {claim(l(2, 1, 0), l(3), l(3, -1, 3), l(-1, -1, -1, 7)), verdict(api.ErrMove, 0, 0)}, {claim(l(0, 1), l(2, 3), l(9, -1), l(-1, -1, 2, 3)), verdict(api.ErrMove, 0, 0)},
		{claim(l(0, 1), l(2, 3), l(0, -1), l(-1, -1, 2, 3)), verdict(api.ErrLeave, 0, 1)}, {claim(l(2, 3), l(0, 1), l(-1, -1, 2), l(0, 1)), verdict(api.ErrLeave, 1, 0)}, {claim(l(0, 1, 2, 3), nil, l(0, -1, 2), nil), verdict(api.ErrCycle, 0, 0)},
		{claim(l(0, 1, 2, 3), nil, l(1, -1, 3), nil), verdict(api.ErrCycle, 0, 3)}, {claim(nil, l(0, 1, 2, 3), nil, l(9, 1, 9, 2)), verdict(api.ErrCycle, 1, 1)}, {claim(nil, l(0, 1, 2, 3), nil, l(9, 2, 9, 3)), verdict(api.ErrCycle, 1, 2)},
		{claim(l(1, 2), l(0, 3), l(-1, -1, 2), l(-1, -1, -1, 3)), verdict(api.ErrLeave, 1, 0)},
	} {
		if got := judge.Judge(g, x.c); got != x.want {
			t.Errorf("J1: %d: %v, want %v", i, got, x.want)
		}
	}
}

// plays tells whether each cycle of a player's region by its moves has a highest priority of its parity, and no play leaves it.
func plays(g api.Game, c api.Claim, player int) bool {
	region := c.Regions[player]
	next := func(at int) []int {
		if g.Owner[at] == player {
			return c.Moves[player][at : at+1]
		}
		return g.Moves[at]
	}
	for _, at := range region {
		met := map[int]int{}
		for queue := l(at); len(queue) > 0; queue = queue[1:] {
			for _, to := range next(queue[0]) {
				if !slices.Contains(region, to) || !slices.Contains(g.Moves[queue[0]], to) {
					return false
				}
				if _, known := met[to]; !known && g.Priority[to] <= g.Priority[at] {
					met[to] = 1
					queue = append(queue, to)
				}
			}
		}
		if met[at] == 1 && g.Priority[at]%2 != player {
			return false
		}
	}
	return true
}

func TestP4Follows(t *testing.T) {
	right, wrong := 0, 0
	for i := range 3000 {
		source := samples.New(i)
		g := source.Game(1+source.Below(6), 1+source.Below(4), 3)
		c, _ := decomp.Solve(g)
		if v := judge.Judge(g, c); v != (api.Verdict{}) {
			t.Fatalf("P4: %v: %v is %v", g, c, v)
		}
		at := source.Below(len(g.Owner))
		for player := range 2 {
			if c.Moves[player][at] != -1 && source.Chance(2, 3) {
				c.Moves[player][at] = g.Moves[at][source.Below(len(g.Moves[at]))]
			} else if j := slices.Index(c.Regions[player], at); j >= 0 {
				c.Regions[player] = slices.Delete(c.Regions[player], j, j+1)
				c.Regions[1-player] = append(c.Regions[1-player], at)
				c.Moves[1-player][at] = g.Moves[at][0]
				break
			}
		}
		v := judge.Judge(g, c)
		if want := plays(g, c, 0) && plays(g, c, 1); want != (v.Err == api.OK) {
			t.Fatalf("P4: %v: %v is %v", g, c, v)
		}
		if v.Err != api.OK {
			wrong++
			continue
		}
		right++
		if won, ok := samples.Winners(g); ok {
			for at := range won {
				if won[at] != slices.Contains(c.Regions[0], at) {
					t.Fatalf("P4: %v: the wrong regions of %v are right", g, c)
				}
			}
		}
	}
	if right < 300 || wrong < 300 {
		t.Errorf("only %d right claims and %d wrong ones were tried", right, wrong)
	}
}

func TestR5(t *testing.T) {
	g, c := sample(), claim(l(0), l(1), l(0, -1), l(-1, 1))
	before := game.Copy(g)
	judge.Judge(g, c)
	if !slices.EqualFunc(g.Moves, before.Moves, slices.Equal[[]int]) || !slices.Equal(c.Moves[0], l(0, -1)) || !slices.Equal(c.Regions[1], l(1)) {
		t.Error("R5: a game or a claim was written into")
	}
}
