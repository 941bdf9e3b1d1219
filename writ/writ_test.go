package writ_test

import (
	"errors"
	"math"
	"slices"
	"strconv"
	"strings"
	"testing"

	"bailiff/api"
	"bailiff/decomp"
	"bailiff/samples"
	"bailiff/writ"
)

func claim(even, odd, moves, others []int) api.Claim {
	return api.Claim{Regions: [2][]int{even, odd}, Moves: [2][]int{moves, others}}
}

func l(l ...int) []int { return l }

func same(a, b api.Claim) bool {
	for player := range 2 {
		if !slices.Equal(a.Regions[player], b.Regions[player]) || !slices.Equal(a.Moves[player], b.Moves[player]) {
			return false
		}
	}
	return true
}

const example = "claim 2\nregion 0 0\nregion 1 1\nmoves 0 0:0\nmoves 1 1:1\n"

func TestW1Print(t *testing.T) {
	for _, x := range []struct {
		n    int
		c    api.Claim
		want string
	}{
		{2, claim(l(0), l(1), l(0, -1), l(-1, 1)), example}, {1, claim(nil, nil, l(-1), l(-1)), "claim 1\nregion 0\nregion 1\nmoves 0\nmoves 1\n"},
		{3, claim(l(0, 2), l(0, 1, 2), l(2, -1, 0), l(-1, 1, -1)), "claim 3\nregion 0 0 2\nregion 1 0 1 2\nmoves 0 0:2 2:0\nmoves 1 1:1\n"},
	} {
		if got := writ.Print(x.n, x.c); got != x.want {
			t.Errorf("W1: %q", got)
		}
	}
}

func TestW1NotPlain(t *testing.T) {
	for i, x := range []struct {
		n int
		c api.Claim
	}{
		{0, api.Claim{}}, {-1, api.Claim{}}, {math.MinInt, api.Claim{}}, {api.MaxPositions + 1, claim(nil, nil, make([]int, 201), make([]int, 201))}, {2, api.Claim{}},
		{2, claim(l(0), l(1), l(0), l(-1, 1))}, {2, claim(l(0), l(1), l(0, -1), l(-1, 1, 0))}, {2, claim(l(0), l(1), l(0, -1), nil)}, {2, claim(l(1, 0), l(1), l(0, -1), l(-1, 1))}, {2, claim(l(0), l(1, 1), l(0, -1), l(-1, 1))},
		{2, claim(l(-1, 0), l(1), l(0, -1), l(-1, 1))}, {2, claim(l(0), l(2), l(0, -1), l(-1, 1))}, {2, claim(l(0), l(1), l(2, -1), l(-1, 1))}, {2, claim(l(0), l(1), l(0, -2), l(-1, 1))}, {2, claim(l(0), l(1), l(0, -1), l(math.MinInt, 1))},
		{2, claim(l(0), l(1), l(0, -1), l(-1, math.MaxInt))}, {1, claim(l(0), l(1), l(0, -1), l(-1, 1))}, {3, claim(l(0), l(1), l(0, -1), l(-1, 1))},
	} {
		if got := writ.Print(x.n, x.c); got != "" {
			t.Errorf("W1: %d is not plain: %q", i, got)
		}
	}
}

func TestW2Parse(t *testing.T) {
	for _, x := range []struct {
		text string
		n    int
		want api.Claim
	}{
		{example, 2, claim(l(0), l(1), l(0, -1), l(-1, 1))}, {strings.TrimSuffix(example, "\n"), 2, claim(l(0), l(1), l(0, -1), l(-1, 1))},
		{"\n# r\nclaim 3 # r\n\nregion 0 0 2\nregion 1\n \nmoves 0\t1 : 2 # r\n\nmoves 1\n\n#", 3, claim(l(0, 2), nil, l(-1, 2, -1), l(-1, -1, -1))},
		{"claim 200\nregion 0 199\nregion 1 199\nmoves 0 199:199\nmoves 1", 200, claim(l(199), l(199), append(slices.Repeat(l(-1), 199), 199), slices.Repeat(l(-1), 200))},
	} {
		n, got, err := writ.Parse(x.text)
		if err != nil || n != x.n || !same(got, x.want) {
			t.Errorf("W2: %q: %d, %v, %v", x.text, n, got, err)
		}
	}
}

func checkFault(t *testing.T, text string, want api.Fault) {
	t.Helper()
	n, got, err := writ.Parse(text)
	var fault *api.Fault
	if n != 0 || !same(got, api.Claim{}) || !errors.As(err, &fault) || *fault != want {
		t.Errorf("W2: %.70q: %d, %v, %v, want %v", text, n, got, fault, want)
	}
}

func TestW2Faults(t *testing.T) {
	const three = "claim 2\nregion 0 0\nregion 1 1\n"
	for _, x := range []struct {
		text string
		at   int
		err  api.Errno
	}{
		{"", 0, api.ErrShort}, {"\n", 1, api.ErrShort}, {"claim", 5, api.ErrShort}, {"claim\n2", 5, api.ErrWord}, {"claim x", 6, api.ErrWord}, {"claims 2", 0, api.ErrWord}, {"Claim 2", 0, api.ErrWord}, {"2", 0, api.ErrWord},
		{"claim 0", 6, api.ErrRange}, {"claim 201", 6, api.ErrRange}, {"claim 0 0", 6, api.ErrRange}, {"claim 2 2", 8, api.ErrWord}, {"claim 2", 7, api.ErrShort}, {"claim 2\n\n", 9, api.ErrShort},
		{"claim 2\nregion 1", 15, api.ErrWord}, {"claim 2\nregion", 14, api.ErrShort}, {"claim 2\nregion\n", 14, api.ErrWord}, {"claim 2\nregion x", 15, api.ErrWord}, {"claim 2\nmoves 0", 8, api.ErrWord}, {"claim 2\n0", 8, api.ErrWord},
		{"claim 1\nregion 0 0 0", 19, api.ErrTwice}, {"claim 2\nregion 0 2", 17, api.ErrRange}, {"claim 2\nregion 0 1 0", 19, api.ErrTwice}, {"claim 2\nregion 0 1 2", 19, api.ErrRange}, {"claim 2\nregion 0 x", 17, api.ErrWord}, {"claim 2\nregion 0 0:1", 18, api.ErrWord},
		{"claim 2\nregion 0", 16, api.ErrShort}, {"claim 2\nregion 0\nregion 0", 24, api.ErrWord}, {"claim 2\nregion 0\nmoves 1", 17, api.ErrWord}, {"claim 2\nregion 0\nregion 1 5", 26, api.ErrRange}, {"claim 2\nregion 0 region 1", 17, api.ErrWord},
		{three, 30, api.ErrShort}, {three + "moves 1", 36, api.ErrWord}, {three + "region 1", 30, api.ErrWord}, {three + "moves", 35, api.ErrShort}, {three + "moves 0 0", 39, api.ErrShort}, {three + "moves 0 0\n", 39, api.ErrWord}, {three + "moves 0 0 0", 40, api.ErrWord},
		{three + "moves 0 0:", 40, api.ErrShort}, {three + "moves 0 0:\n", 40, api.ErrWord}, {three + "moves 0 0:x", 40, api.ErrWord}, {three + "moves 0 0:2", 40, api.ErrRange}, {three + "moves 0 2:9", 38, api.ErrRange}, {three + "moves 0 :", 38, api.ErrWord},
		{three + "moves 0 1:0 1:0", 42, api.ErrTwice}, {three + "moves 0 1:1 0:x", 42, api.ErrTwice}, {three + "moves 0 0:0 2:0", 42, api.ErrRange}, {three + "moves 0\n", 38, api.ErrShort}, {three + "moves 0\nmoves 0", 44, api.ErrWord},
		{example + "moves 1", 54, api.ErrWord}, {example + "\n:", 55, api.ErrWord}, {strings.TrimSuffix(example, "\n") + " x", 54, api.ErrWord}, {example + "_", 54, api.ErrByte}, {"claim 0 007", 8, api.ErrNumber}, {strings.Repeat(" ", api.MaxText+1), api.MaxText, api.ErrText},
	} {
		checkFault(t, x.text, api.Fault{At: x.at, Err: x.err})
	}
}

func TestP8ThereAndBack(t *testing.T) {
	for i := range 300 {
		source := samples.New(i)
		c, _ := decomp.Solve(source.Game(1+source.Below(60), 7, 4))
		n := len(c.Moves[0])
		text := writ.Print(n, c)
		m, got, err := writ.Parse(text)
		if err != nil || m != n || !same(got, c) {
			t.Fatalf("P8: %q: %d, %v", text, m, err)
		}
		cut := source.Below(len(text))
		if m, got, err = writ.Parse(text[:cut] + strconv.Itoa(source.Below(9)) + text[cut+1:]); err == nil && writ.Print(m, got) == "" {
			t.Fatalf("W2: %q with another byte %d is read, and not plain", text, cut)
		}
	}
	most := claim(nil, nil, make([]int, api.MaxPositions), make([]int, api.MaxPositions))
	for at := range api.MaxPositions {
		most.Regions[at%2] = append(most.Regions[at%2], at)
		most.Moves[0][at], most.Moves[1][at] = api.MaxPositions-1-at, at
	}
	if n, got, err := writ.Parse(writ.Print(api.MaxPositions, most)); err != nil || n != api.MaxPositions || !same(got, most) {
		t.Errorf("P8: of MaxPositions positions: %v", err)
	}
}

func TestR5(t *testing.T) {
	_, c, _ := writ.Parse(example)
	_, _ = append(c.Moves[0], 99), append(c.Regions[0], 99)
	if slices.Contains(c.Moves[1], 99) || slices.Contains(c.Regions[1], 99) {
		t.Error("R5: two lists of one answer share memory")
	}
	given := claim(l(0), l(1), l(0, -1), l(-1, 1))
	writ.Print(2, given)
	if !same(given, claim(l(0), l(1), l(0, -1), l(-1, 1))) {
		t.Error("R5: a claim was written into")
	}
}
