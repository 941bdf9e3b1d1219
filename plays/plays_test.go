package plays_test

import (
	"math"
	"slices"
	"testing"

	"bailiff/api"
	"bailiff/decomp"
	"bailiff/game"
	"bailiff/plays"
	"bailiff/samples"
)

// sample is the chapter's game.
func sample() api.Game {
	return api.Game{Owner: []int{0, 1}, Priority: []int{0, 1}, Moves: [][]int{{0, 1}, {0, 1}}}
}

func l(l ...int) []int { return l }

func same(a, b api.Play) bool {
	return slices.Equal(a.Ahead, b.Ahead) && slices.Equal(a.Round, b.Round) && a.Winner == b.Winner
}

func TestY1Examples(t *testing.T) {
	for i, x := range []struct {
		at, player    int
		moves, script []int
		want          api.Play
	}{
		{1, 0, l(0, -1), l(1, 1, 0), api.Play{Ahead: l(1, 1, 1), Round: l(0), Winner: 0}}, {1, 0, l(0, -1), l(1), api.Play{Round: l(1), Winner: 1}}, {0, 1, nil, nil, api.Play{Round: l(0), Winner: 0}},
		{1, 0, l(0, -1), nil, api.Play{Ahead: l(1), Round: l(0), Winner: 0}}, {1, 0, l(1), l(0), api.Play{Round: l(1, 0), Winner: 1}}, {1, 0, l(1), l(1, 0), api.Play{Round: l(1, 1, 0), Winner: 1}},
		{0, 0, l(1, 99), l(1, 0), api.Play{Round: l(0, 1, 1), Winner: 1}}, {0, 1, l(-1, 0), l(1), api.Play{Round: l(0, 1), Winner: 1}}, {0, 1, l(5, 1), l(0, 0, 1), api.Play{Ahead: l(0, 0, 0), Round: l(1), Winner: 1}},
		{1, 0, l(0), l(-1), api.Play{Round: l(1), Winner: 1}}, {1, 0, l(0), l(-2), api.Play{Ahead: l(1), Round: l(0), Winner: 0}}, {1, 0, l(0), l(math.MinInt), api.Play{Ahead: l(1), Round: l(0), Winner: 0}},
		{1, 0, l(0), l(math.MaxInt), api.Play{Round: l(1), Winner: 1}}, {1, 0, l(0), l(5, 2), api.Play{Ahead: l(1, 1), Round: l(0), Winner: 0}}, {1, 0, l(1), make([]int, 64), api.Play{Round: slices.Repeat(l(1, 0), 64), Winner: 1}},
	} {
		if got, wrong := plays.Run(sample(), x.at, x.player, x.moves, x.script); wrong != api.OK || !same(got, x.want) {
			t.Errorf("Y1: %d: %v, %d, want %v", i, got, wrong, x.want)
		}
	}
}

func TestY1Wrong(t *testing.T) {
	stuck := sample()
	stuck.Moves[1] = nil
	long := make([]int, 65)
	for i, x := range []struct {
		g             api.Game
		at, player    int
		moves, script []int
		want          api.Errno
	}{
		{api.Game{}, 0, 0, nil, nil, api.ErrArg}, {stuck, 0, 0, l(0), nil, api.ErrArg}, {sample(), 2, 0, l(0), nil, api.ErrArg}, {sample(), -1, 0, l(0), nil, api.ErrArg}, {sample(), math.MaxInt, 0, l(0), nil, api.ErrArg},
		{sample(), 0, 2, l(0), nil, api.ErrArg}, {sample(), 0, -1, l(0), nil, api.ErrArg}, {sample(), 0, 7, l(0), long, api.ErrArg}, {sample(), 0, 0, l(0), long, api.ErrMany}, {sample(), 1, 1, nil, long, api.ErrMany},
		{sample(), 1, 1, nil, nil, api.ErrMove}, {sample(), 1, 1, l(0), nil, api.ErrMove}, {sample(), 1, 1, l(0, -1), nil, api.ErrMove}, {sample(), 1, 1, l(0, 2), nil, api.ErrMove}, {sample(), 0, 0, l(math.MinInt), nil, api.ErrMove},
		{sample(), 0, 1, nil, l(0, 0, 0, 1), api.ErrMove}, {sample(), 1, 0, nil, l(1, 1, 0), api.ErrMove},
	} {
		if got, wrong := plays.Run(x.g, x.at, x.player, x.moves, x.script); wrong != x.want || !same(got, api.Play{}) {
			t.Errorf("Y1: the wrong play %d: %v, %d", i, got, wrong)
		}
	}
	if got, wrong := plays.Run(sample(), 1, 0, nil, l(1)); wrong != api.OK || got.Winner != 1 {
		t.Errorf("Y1: a wrong move that is never come to: %v, %d", got, wrong)
	}
}

// checkPlay goes a play step by step, and looks whether just the stands up to the first one that comes again are told.
func checkPlay(t *testing.T, g api.Game, at, player int, moves, script []int, got api.Play) {
	t.Helper()
	way := append(slices.Clone(got.Ahead), got.Round...)
	place := 0
	type stand struct{ at, place int }
	var stands []stand
	for i, told := range way {
		if told != at {
			t.Fatalf("Y1: %v: %v stands at %d, not at %d", g, got, told, at)
		}
		if slices.Contains(stands, stand{at, place}) {
			t.Fatalf("Y1: %v: %v goes on, where a stand comes again, %d", g, got, i)
		}
		stands = append(stands, stand{at, place})
		if g.Owner[at] == player {
			at = moves[at]
			continue
		}
		n := len(g.Moves[at])
		choice := script[place] % n
		for choice < 0 {
			choice += n
		}
		at, place = g.Moves[at][choice], (place+1)%len(script)
	}
	if len(got.Round) == 0 || (stand{at, place}) != stands[len(got.Ahead)] {
		t.Fatalf("Y1: %v: %v does not come round", g, got)
	}
	highest := 0
	for _, at := range got.Round {
		highest = max(highest, g.Priority[at])
	}
	if got.Winner != highest%2 {
		t.Fatalf("Y1: %v: %v is won by the other one", g, got)
	}
}

func TestFollows(t *testing.T) {
	for i := range 1000 {
		source := samples.New(i)
		g := source.Game(1+source.Below(20), 1+source.Below(7), 4)
		script := make([]int, 1+source.Below(9))
		for j := range script {
			script[j] = source.Below(20) - 10
		}
		player := source.Below(2)
		moves := make([]int, len(g.Owner))
		for at := range moves {
			moves[at] = g.Moves[at][source.Below(len(g.Moves[at]))]
		}
		at := source.Below(len(g.Owner))
		got, wrong := plays.Run(g, at, player, moves, script)
		if wrong != api.OK {
			t.Fatalf("Y1: %v: %d", g, wrong)
		}
		checkPlay(t, g, at, player, moves, script, got)
	}
}

func TestP3Wins(t *testing.T) {
	for i := range 300 {
		source := samples.New(i)
		g := source.Game(1+source.Below(30), 1+source.Below(7), 4)
		c, _ := decomp.Solve(g)
		for player := range 2 {
			for _, at := range c.Regions[player] {
				script := make([]int, source.Below(6))
				for j := range script {
					script[j] = source.Below(100)
				}
				got, wrong := plays.Run(g, at, player, c.Moves[player], script)
				if wrong != api.OK || got.Winner != player {
					t.Fatalf("P3: %v: from %d player %d does not win against %v: %v, %d", g, at, player, script, got, wrong)
				}
			}
		}
	}
}

func TestY1Long(t *testing.T) {
	var g api.Game
	for i := range api.MaxPositions {
		g.Owner, g.Priority = append(g.Owner, 1), append(g.Priority, 2)
		g.Moves = append(g.Moves, []int{(i + 1) % api.MaxPositions})
	}
	g.Priority[77] = 7
	got, wrong := plays.Run(g, 3, 0, nil, make([]int, 63))
	if wrong != api.OK || len(got.Ahead) != 0 || len(got.Round) != 63*api.MaxPositions || got.Winner != 1 {
		t.Errorf("Y1: %d, %d ahead, a round of %d, won by %d", wrong, len(got.Ahead), len(got.Round), got.Winner)
	}
}

func TestR5(t *testing.T) {
	g := sample()
	before := game.Copy(g)
	moves, script := l(0, -1), l(1, 1, 0)
	got, _ := plays.Run(g, 1, 0, moves, script)
	_ = append(got.Ahead, 99)
	if !slices.Equal(got.Round, l(0)) {
		t.Error("R5: two lists of one answer share memory")
	}
	if !slices.EqualFunc(g.Moves, before.Moves, slices.Equal[[]int]) || !slices.Equal(moves, l(0, -1)) || !slices.Equal(script, l(1, 1, 0)) {
		t.Error("R5: an argument was written into")
	}
}
