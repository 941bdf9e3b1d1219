package game_test

import (
	"math"
	"slices"
	"testing"

	"bailiff/api"
	"bailiff/game"
	"bailiff/samples"
	"bailiff/sets"
)

// sample is the chapter's game.
func sample() api.Game {
	return api.Game{Owner: []int{0, 1, 1}, Priority: []int{1, 4, 7}, Moves: [][]int{{1, 2}, {0}, {0, 2}}}
}

func same(a, b api.Game) bool {
	return slices.Equal(a.Owner, b.Owner) && slices.Equal(a.Priority, b.Priority) && slices.EqualFunc(a.Moves, b.Moves, slices.Equal[[]int])
}

func isNothing(g api.Game) bool { return same(g, api.Game{}) }

// ring is a game of n positions of one priority, each of which moves to the next one.
func ring(n, priority int) api.Game {
	var g api.Game
	for i := range n {
		g.Owner = append(g.Owner, i%2)
		g.Priority = append(g.Priority, priority)
		g.Moves = append(g.Moves, []int{(i + 1) % n})
	}
	return g
}

func TestG1Right(t *testing.T) {
	for what, g := range map[string]api.Game{"the sample": sample(), "one position": ring(1, 0), "most positions": ring(api.MaxPositions, api.MaxPriority)} {
		if at, wrong := game.Right(g); at != 0 || wrong != api.OK {
			t.Errorf("G1: %s: %d, %d", what, at, wrong)
		}
	}
	for what, c := range map[string]struct {
		change func(g *api.Game)
		at     int
		err    api.Errno
	}{
		"no positions": {func(g *api.Game) { *g = api.Game{} }, 0, api.ErrMany},
		"empty lists":  {func(g *api.Game) { *g = api.Game{Owner: []int{}, Priority: []int{}, Moves: [][]int{}} }, 0, api.ErrMany},
		"too many":     {func(g *api.Game) { *g = ring(api.MaxPositions+1, 0) }, 0, api.ErrMany},
		"too many, all wrong": {func(g *api.Game) {
			*g = api.Game{Owner: make([]int, 300), Priority: make([]int, 300), Moves: make([][]int, 300)}
		}, 0, api.ErrMany},
		"lists of three lengths": {func(g *api.Game) { *g = api.Game{Owner: g.Owner[:1], Priority: g.Priority[:2], Moves: g.Moves[:2]} }, 0, api.ErrArg},
		"an owner too few":       {func(g *api.Game) { g.Owner = g.Owner[:2] }, 0, api.ErrArg},
		"a priority too many":    {func(g *api.Game) { g.Priority = append(g.Priority, 1) }, 0, api.ErrArg},
		"no moves at all":        {func(g *api.Game) { g.Moves = nil }, 0, api.ErrArg},
		"only moves":             {func(g *api.Game) { g.Owner, g.Priority = nil, nil }, 0, api.ErrArg},
		"lengths and owners":     {func(g *api.Game) { g.Owner = []int{7} }, 0, api.ErrArg},
		"owner 2":                {func(g *api.Game) { g.Owner[1] = 2 }, 1, api.ErrOwner},
		"owner -1":               {func(g *api.Game) { g.Owner[0] = -1 }, 0, api.ErrOwner},
		"all wrong at 2":         {func(g *api.Game) { g.Owner[2], g.Priority[2], g.Moves[2] = 9, 9, nil }, 2, api.ErrOwner},
		"priority 8":             {func(g *api.Game) { g.Priority[1] = 8 }, 1, api.ErrPriority},
		"priority -1":            {func(g *api.Game) { g.Priority[2] = -1 }, 2, api.ErrPriority},
		"priority and moves":     {func(g *api.Game) { g.Priority[1], g.Moves[1] = math.MinInt, nil }, 1, api.ErrPriority},
		"nil moves":              {func(g *api.Game) { g.Moves[1] = nil }, 1, api.ErrStuck},
		"empty moves":            {func(g *api.Game) { g.Moves[2] = []int{} }, 2, api.ErrStuck},
		"moves fall":             {func(g *api.Game) { g.Moves[0] = []int{2, 1} }, 0, api.ErrMove},
		"a move twice":           {func(g *api.Game) { g.Moves[2] = []int{2, 2} }, 2, api.ErrMove},
		"a move too far":         {func(g *api.Game) { g.Moves[1] = []int{3} }, 1, api.ErrMove},
		"a move below 0":         {func(g *api.Game) { g.Moves[1] = []int{-1, 0} }, 1, api.ErrMove},
		"far moves":              {func(g *api.Game) { g.Moves[1] = []int{math.MinInt, math.MaxInt} }, 1, api.ErrMove},
		"the first one counts":   {func(g *api.Game) { g.Moves[1], g.Owner[2] = nil, 5 }, 1, api.ErrStuck},
	} {
		g := sample()
		c.change(&g)
		checkWrong(t, what, g, c.at, c.err)
	}
}

func checkWrong(t *testing.T, what string, g api.Game, at int, err api.Errno) {
	t.Helper()
	if got, wrong := game.Right(g); got != at || wrong != err {
		t.Errorf("G1: %s: %d, %d, want %d, %d", what, got, wrong, at, err)
	}
	if !same(game.Copy(g), g) {
		t.Errorf("G2: Copy of %s", what)
	}
	sub, old, ok := game.Sub(g, sets.Full(256))
	if !isNothing(game.Dual(g)) || !isNothing(sub) || len(old) != 0 || ok {
		t.Errorf("G2, G3: Dual or Sub of %s", what)
	}
}

func TestG2Dual(t *testing.T) {
	want := api.Game{Owner: []int{1, 0, 0}, Priority: []int{0, 3, 6}, Moves: [][]int{{1, 2}, {0}, {0, 2}}}
	if got := game.Dual(sample()); !same(got, want) {
		t.Errorf("G2: %v", got)
	}
	for _, c := range []struct{ before, after [2]int }{
		{[2]int{0, 6}, [2]int{1, 7}}, {[2]int{0, 0}, [2]int{1, 1}}, {[2]int{1, 7}, [2]int{0, 6}}, {[2]int{7, 7}, [2]int{6, 6}}, {[2]int{1, 6}, [2]int{2, 7}},
	} {
		g := ring(2, 0)
		g.Priority = c.before[:]
		if got := game.Dual(g); !slices.Equal(got.Priority, c.after[:]) || !slices.Equal(got.Owner, []int{1, 0}) {
			t.Errorf("G2: of the priorities %v: %v", c.before, got)
		}
	}
	g := ring(2, 0)
	g.Priority[1] = api.MaxPriority
	if got := game.Dual(g); !isNothing(got) {
		t.Errorf("G2: of the priorities 0 and 7: %v", got)
	}
}

func TestG3Sub(t *testing.T) {
	g := sample()
	sub, old, ok := game.Sub(g, sets.Of(0, 2, 9))
	want := api.Game{Owner: []int{0, 1}, Priority: []int{1, 7}, Moves: [][]int{{1}, {0, 1}}}
	if !ok || !same(sub, want) || !slices.Equal(old, []int{0, 2}) {
		t.Errorf("G3: %v, %v, %v", sub, old, ok)
	}
	sub, old, ok = game.Sub(g, sets.Of(2, 255))
	if !ok || !same(sub, api.Game{Owner: []int{1}, Priority: []int{7}, Moves: [][]int{{0}}}) || !slices.Equal(old, []int{2}) {
		t.Errorf("G3: %v, %v, %v", sub, old, ok)
	}
	for _, in := range []sets.Set{sets.Of(1), sets.Of(), sets.Of(3, 200), sets.Of(0), sets.Of(1, 2)} {
		if sub, old, ok := game.Sub(g, in); ok || !isNothing(sub) || len(old) != 0 {
			t.Errorf("G3: on %v: %v, %v, %v", in.List(), sub, old, ok)
		}
	}
}

func TestG4OwnAt(t *testing.T) {
	g := sample()
	if game.Own(g, 1) != sets.Of(1, 2) || game.Own(g, 0) != sets.Of(0) || game.Own(g, 5) != sets.Of() || game.Own(g, -1) != sets.Of() {
		t.Error("G4: Own")
	}
	if game.At(g, 7) != sets.Of(2) || game.At(g, 4) != sets.Of(1) || game.At(g, 0) != sets.Of() || game.At(g, math.MinInt) != sets.Of() {
		t.Error("G4: At")
	}
	odd := api.Game{Owner: make([]int, 1000), Priority: []int{5, -3, 5, 99}}
	odd.Owner[3], odd.Owner[255], odd.Owner[256] = 9, 9, 9
	if game.Own(odd, 9) != sets.Of(3, 255) || game.Own(odd, 0) != sets.Full(256).Less(3).Less(255) || game.At(odd, 5) != sets.Of(0, 2) || game.At(odd, -3) != sets.Of(1) {
		t.Error("G4: of a game that is not right")
	}
	if game.Own(api.Game{}, 0) != sets.Of() || game.At(api.Game{}, 0) != sets.Of() {
		t.Error("G4: of no game")
	}
}

func TestG5Follows(t *testing.T) {
	for i := range 300 {
		source := samples.New(i)
		g := source.Game(1+source.Below(30), source.Below(8), 4)
		if _, wrong := game.Right(g); wrong != api.OK {
			t.Fatalf("a sample that is not right: %v", g)
		}
		checkTwice(t, g)
		whole, old, ok := game.Sub(g, sets.Full(256))
		if !ok || !same(whole, g) || !slices.Equal(old, sets.Full(len(g.Owner)).List()) {
			t.Fatalf("G5: Sub of all positions of %v", g)
		}
		first, second := sets.Set{source.Word() | source.Word()}, sets.Set{source.Word() | source.Word()}
		part, old, ok := game.Sub(g, first)
		if !ok {
			continue
		}
		partOfPart, older, ok := game.Sub(part, second)
		both := sets.Set{}
		for n, at := range old {
			if second.Has(n) {
				both = both.With(at)
			}
		}
		direct, numbers, known := game.Sub(g, both)
		for j, n := range older {
			older[j] = old[n]
		}
		if ok != known || !same(partOfPart, direct) || !slices.Equal(older, numbers) {
			t.Fatalf("G5: a part of a part of %v", g)
		}
	}
}

// checkTwice looks whether the dual's dual is the game, but for a shift of all priorities by two.
func checkTwice(t *testing.T, g api.Game) {
	t.Helper()
	dual := game.Dual(g)
	if isNothing(dual) {
		return
	}
	twice := game.Dual(dual)
	if isNothing(twice) {
		return
	}
	shift := twice.Priority[0] - g.Priority[0]
	for i := range twice.Priority {
		twice.Priority[i] -= shift
	}
	if !same(twice, g) || shift != 0 && shift != 2 && shift != -2 {
		t.Fatalf("G5: the dual's dual of %v is %v", g, twice)
	}
}

func TestR5NewMemory(t *testing.T) {
	g := sample()
	spare := make([]int, 3, 9)
	copy(spare, g.Owner)
	g.Owner = spare
	for _, made := range []api.Game{game.Copy(g), game.Dual(g), subOf(g)} {
		for i := range made.Owner {
			made.Owner[i], made.Priority[i], made.Moves[i][0] = 77, 77, 77
		}
		for i := range made.Moves {
			_ = append(made.Moves[i], 88, 88, 88)
		}
		_, _, _ = append(made.Owner, 99), append(made.Priority, 99), append(made.Moves, nil)
		for i, l := range made.Moves {
			if slices.Contains(l, 88) || slices.Contains(made.Owner, 99) || made.Moves[i][0] != 77 {
				t.Error("R5: two lists of one answer share memory")
			}
		}
	}
	if !same(g, sample()) || !slices.Equal(spare[:9], []int{0, 1, 1, 0, 0, 0, 0, 0, 0}) {
		t.Error("R5: a game was written into")
	}
}

func subOf(g api.Game) api.Game {
	sub, _, _ := game.Sub(g, sets.Full(3))
	return sub
}
