package pages_test

import (
	"errors"
	"slices"
	"strconv"
	"strings"
	"testing"

	"bailiff/api"
	"bailiff/game"
	"bailiff/pages"
	"bailiff/samples"
)

func same(a, b api.Game) bool {
	return slices.Equal(a.Owner, b.Owner) && slices.Equal(a.Priority, b.Priority) && slices.EqualFunc(a.Moves, b.Moves, slices.Equal[[]int])
}

// sample is chapter 9's game.
func sample() api.Game {
	return api.Game{Owner: []int{0, 1, 1}, Priority: []int{1, 4, 7}, Moves: [][]int{{1, 2}, {0}, {0, 2}}}
}

func one() api.Game { return api.Game{Owner: []int{1}, Priority: []int{0}, Moves: [][]int{{0}}} }

func TestP1Print(t *testing.T) {
	if got := pages.Print(sample()); got != "game 3\n0 0 1 : 1 2\n1 1 4 : 0\n2 1 7 : 0 2\n" {
		t.Errorf("P1: %q", got)
	}
	if got := pages.Print(one()); got != "game 1\n0 1 0 : 0\n" {
		t.Errorf("P1: %q", got)
	}
	for what, change := range map[string]func(g *api.Game){
		"no positions": func(g *api.Game) { *g = api.Game{} }, "owner": func(g *api.Game) { g.Owner[0] = 2 }, "priority": func(g *api.Game) { g.Priority[0] = 8 },
		"stuck": func(g *api.Game) { g.Moves[0] = nil }, "move": func(g *api.Game) { g.Moves[0] = []int{1} }, "lists": func(g *api.Game) { g.Owner = []int{0, 0} },
	} {
		g := one()
		change(&g)
		if got := pages.Print(g); got != "" {
			t.Errorf("P1: %s: %q", what, got)
		}
	}
}

func TestP2Parse(t *testing.T) {
	for _, c := range []struct {
		text string
		want api.Game
	}{
		{"game 3\n0 0 1 : 1 2\n1 1 4 : 0\n2 1 7 : 0 2\n", sample()}, {"game 3\n0 0 1 : 1 2\n1 1 4 : 0\n2 1 7 : 0 2", sample()},
		{"game 1\n\n0 1 0:0 # round", one()}, {"\n# r\n\tgame 1 # r\n\n \n0 1 0 :0\n\n#\n", one()},
		{"game 2\n0 0 7:0 1\n\n1 1 0:1\n", api.Game{Owner: []int{0, 1}, Priority: []int{7, 0}, Moves: [][]int{{0, 1}, {1}}}},
	} {
		got, err := pages.Parse(c.text)
		if err != nil || !same(got, c.want) {
			t.Errorf("P2: %q: %v, %v", c.text, got, err)
		}
	}
}

func checkFault(t *testing.T, text string, want api.Fault) {
	t.Helper()
	got, err := pages.Parse(text)
	var fault *api.Fault
	if !same(got, api.Game{}) || !errors.As(err, &fault) || *fault != want {
		t.Errorf("P2: %.60q: %v, %v, want %v", text, got, fault, want)
	}
}

func TestP2Faults(t *testing.T) {
	for _, c := range []struct {
		text string
		at   int
		err  api.Errno
	}{
		{"", 0, api.ErrShort}, {"\n\n", 2, api.ErrShort}, {"game", 4, api.ErrShort}, {"game 0", 5, api.ErrMany}, {"game 201\n", 5, api.ErrMany}, {"game 9999", 5, api.ErrMany},
		{"game 1 0 0 0 : 0", 7, api.ErrWord}, {"gam 1", 0, api.ErrWord}, {"1", 0, api.ErrWord}, {"Game 1", 0, api.ErrWord}, {"game\n1", 4, api.ErrWord}, {"game x", 5, api.ErrWord}, {"game -1", 5, api.ErrWord},
		{"game 1", 6, api.ErrShort}, {"game 1\n\n", 8, api.ErrShort}, {"game 0 0", 5, api.ErrMany},
		{"game 1\n1 0 0 : 0", 7, api.ErrRange}, {"game 2\n0 0 0:0\n0 0 0:0", 15, api.ErrRange}, {"game 2\n0 0 0:0\n2 2 2:2", 15, api.ErrRange},
		{"game 1\n0 2 9 : 5", 9, api.ErrOwner}, {"game 1\n0 0 9 : 5", 11, api.ErrPriority}, {"game 1\n0 0 8:0", 11, api.ErrPriority}, {"game 1\n0 0 0 : 5", 15, api.ErrMove}, {"game 1\n0 0 0 : 1", 15, api.ErrMove},
		{"game 1\n0 0 0 :\n", 14, api.ErrStuck}, {"game 1\n0 0 0:", 13, api.ErrStuck}, {"game 1\n0 0 0: # r\n", 17, api.ErrStuck}, {"game 1\n0 0 0 : x", 15, api.ErrWord}, {"game 1\n0 0 0 : :", 15, api.ErrWord},
		{"game 2\n0 0 0 : 1 0", 17, api.ErrMove}, {"game 2\n0 0 0 : 0 0", 17, api.ErrMove}, {"game 2\n0 0 0 : 0 1 2", 19, api.ErrMove},
		{"game 1\n0 0 0 : 0\n0 0 0 : 0", 17, api.ErrWord}, {"game 1\n0 0 0 : 0 x", 17, api.ErrWord}, {"game 1\n0 0 0 : 0\ngame 1", 17, api.ErrWord}, {"game 1\n0 0 0 : 0\n\n\n:", 19, api.ErrWord},
		{"game 1\n0", 8, api.ErrShort}, {"game 1\n0 0", 10, api.ErrShort}, {"game 1\n0 0 0", 12, api.ErrShort}, {"game 2\n0 0 0 : 0", 16, api.ErrShort},
		{"game 1\n0\n0 0 : 0", 8, api.ErrWord}, {"game 1\n0 0\n0 : 0", 10, api.ErrWord}, {"game 1\n0 0 0\n: 0", 12, api.ErrWord}, {"game 1\n0 0 0 0", 13, api.ErrWord}, {"game 1\n0 0 0 . 0", 13, api.ErrWord},
		{"game 1\nx", 7, api.ErrWord}, {"game 1\n0 x", 9, api.ErrWord}, {"game 1\n0 0 x", 11, api.ErrWord}, {"game 1\n:", 7, api.ErrWord},
		{"game 0 _", 7, api.ErrByte}, {"game 1\n00", 7, api.ErrNumber}, {"x 99999", 2, api.ErrNumber}, {strings.Repeat("\n", api.MaxText+1), api.MaxText, api.ErrText},
	} {
		checkFault(t, c.text, api.Fault{At: c.at, Err: c.err})
	}
}

func TestP2MostPositions(t *testing.T) {
	text := "game 200\n"
	for i := range api.MaxPositions {
		text += strconv.Itoa(i) + " 0 0 : " + strconv.Itoa((i+1)%api.MaxPositions) + "\n"
	}
	g, err := pages.Parse(text)
	if err != nil || len(g.Owner) != api.MaxPositions || pages.Print(g) != text {
		t.Errorf("P2: of MaxPositions positions: %v", err)
	}
	last := len(text) - len("199 0 0 : 0\n")
	checkFault(t, text[:last]+"199 0 0 : 200\n", api.Fault{At: last + 10, Err: api.ErrMove})
}

func TestP3ThereAndBack(t *testing.T) {
	for i := range 300 {
		source := samples.New(i)
		g := source.Game(1+source.Below(40), 7, 6)
		text := pages.Print(g)
		got, err := pages.Parse(text)
		if _, wrong := game.Right(got); err != nil || !same(got, g) || wrong != api.OK {
			t.Fatalf("P3, P8: %q: %v", text, err)
		}
		loose := "# r\n" + strings.NewReplacer(" : ", ":", " ", " \t ", "\n", "# r 0\n \n\n").Replace(text)
		got, err = pages.Parse(loose)
		if err != nil || !same(got, g) {
			t.Fatalf("P3: %q: %v", loose, err)
		}
		cut := source.Below(len(text))
		if got, err = pages.Parse(text[:cut] + text[cut+1:]); err == nil {
			if again, err := pages.Parse(pages.Print(got)); err != nil || !same(again, got) {
				t.Fatalf("P3: %q without the byte %d", text, cut)
			}
		}
	}
}

func TestR5Untouched(t *testing.T) {
	g := sample()
	pages.Print(g)
	if !same(g, sample()) {
		t.Error("R5: a game was written into")
	}
}
