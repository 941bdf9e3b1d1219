package court_test

import (
	"errors"
	"math"
	"slices"
	"strings"
	"testing"

	"bailiff/api"
	"bailiff/bisim"
	"bailiff/build"
	"bailiff/court"
	"bailiff/decomp"
	"bailiff/game"
	"bailiff/judge"
	"bailiff/lts"
	"bailiff/measure"
	"bailiff/norm"
	"bailiff/samples"
	"bailiff/sets"
	"bailiff/syntax"
)

const example = "states 3\nedge 0 a 1\nedge 1 a 2\nedge 2 a 2\nedge 0 b 0\nmark p 2"

func open(t *testing.T, system, formula string) *court.Case {
	t.Helper()
	c, err := court.Open(system, formula)
	if err != nil || c == nil {
		t.Fatalf("O1: %q, %q: %v", system, formula, err)
	}
	return c
}

func TestO1Open(t *testing.T) {
	c := open(t, example, "~mu X. p |\n[-]X")
	f, _ := syntax.Parse("~mu X. p |\n[-]X")
	if c.States() != 3 || !slices.Equal(c.Formula(), f) || !slices.Equal(c.Positive(), norm.Positive(f)) {
		t.Errorf("O1: %d states, %v, %v", c.States(), c.Formula(), c.Positive())
	}
	c.Formula()[0].Name = "z"
	c.Positive()[0].Kind = 99
	if !slices.Equal(c.Formula(), f) || !slices.Equal(c.Positive(), norm.Positive(f)) || !slices.Equal(c.All(), []int{0}) {
		t.Error("R5: a case shares memory with its answers")
	}
}

func TestO1Refusals(t *testing.T) {
	long := strings.Repeat(" ", api.MaxText+1)
	for _, x := range []struct {
		system, formula string
		want            api.Refusal
	}{
		{"states 0", "p", api.Refusal{Text: 0, At: 7, Err: api.ErrRange}}, {example, "mu X. ~X", api.Refusal{Text: 1, At: 7, Err: api.ErrNegative}}, {"states 0", "mu X. ~X", api.Refusal{Text: 0, At: 7, Err: api.ErrRange}},
		{"", "", api.Refusal{Text: 0, At: 0, Err: api.ErrShort}}, {example, "", api.Refusal{Text: 1, At: 0, Err: api.ErrShort}}, {example, "p &", api.Refusal{Text: 1, At: 3, Err: api.ErrShort}}, {example, "X", api.Refusal{Text: 1, At: 0, Err: api.ErrFree}},
		{example, "p _", api.Refusal{Text: 1, At: 2, Err: api.ErrByte}}, {"states 1\n_", "p", api.Refusal{Text: 0, At: 9, Err: api.ErrByte}}, {long, long, api.Refusal{Text: 0, At: api.MaxText, Err: api.ErrText}}, {"states 1", long, api.Refusal{Text: 1, At: api.MaxText, Err: api.ErrText}},
		{example, "p | (mu X. X) & nu X. X", api.Refusal{Text: 1, At: 16, Err: api.ErrTwice}}, {example, "p & mu A.mu B.mu C.mu D.mu E.E", api.Refusal{Text: 1, At: 4, Err: api.ErrNest}}, {example, "mu X. p | <a>Y", api.Refusal{Text: 1, At: 13, Err: api.ErrFree}},
		{example, strings.Repeat("~", 60) + "p", api.Refusal{Text: 1, At: 60, Err: api.ErrMany}},
	} {
		c, err := court.Open(x.system, x.formula)
		var refusal *api.Refusal
		if c != nil || !errors.As(err, &refusal) || *refusal != x.want || !errors.Is(err, x.want.Err) {
			t.Errorf("O1: %.30q, %.40q: %v, want %v", x.system, x.formula, refusal, x.want)
		}
	}
}

func TestExamplesOfTheWhole(t *testing.T) {
	for formula, want := range map[string][]int{
		"p": {2}, "<a>p": {1, 2}, "[b]p": {1, 2}, "mu X. p | <->X": {0, 1, 2}, "mu X. p | [-]X": {1, 2}, "nu X. <b>X": {0}, "nu X. mu Y. (<a>X & p) | <a>Y": {0, 1, 2}, "~mu X. p | <->X": {},
		"tt": {0, 1, 2}, "ff": {}, "nu X. mu Y. <->((p & X) | (~p & Y))": {0, 1, 2}, "mu X. nu Y. [-]((p & Y) | (~p & X))": {1, 2}, "<zz>tt": {},
	} {
		c := open(t, example, formula)
		if got := c.All(); !slices.Equal(got, want) {
			t.Errorf("O2: %q: %v", formula, got)
		}
		checkWays(t, c, formula)
	}
	c := open(t, example, "p")
	for _, state := range []int{3, -1, math.MinInt, math.MaxInt} {
		for i, way := range []func(int) (bool, api.Errno){c.Direct, c.Solved, c.Lifted} {
			if holds, wrong := way(state); holds || wrong != api.ErrArg {
				t.Errorf("O2: way %d of the state %d: %v, %d", i, state, holds, wrong)
			}
		}
		if board, claim, wrong := c.Evidence(state); wrong != api.ErrArg || len(board.Keys)+len(board.Game.Owner) != 0 || len(claim.Moves[0])+len(claim.Regions[0])+len(claim.Regions[1]) != 0 {
			t.Errorf("O3: of the state %d: %d", state, wrong)
		}
	}
}

// checkWays looks whether all ways tell the same of each state, and whether the evidence is right.
func checkWays(t *testing.T, c *court.Case, what string) (limits int) {
	t.Helper()
	all := sets.Of(c.All()...)
	for state := range c.States() {
		direct, wrong := c.Direct(state)
		if wrong != api.OK || direct != all.Has(state) {
			t.Fatalf("O2: %s in %d: directly %v, %d", what, state, direct, wrong)
		}
		solved, notSolved := c.Solved(state)
		lifted, notLifted := c.Lifted(state)
		board, claim, wrong := c.Evidence(state)
		if notSolved != wrong || notLifted != wrong || wrong != api.OK && (wrong != api.ErrLimit || solved || lifted || len(board.Keys) != 0) {
			t.Fatalf("P1: %s in %d: %d, %d, %d", what, state, notSolved, notLifted, wrong)
		}
		if wrong == api.ErrLimit {
			limits++
			continue
		}
		if solved != direct || lifted != direct {
			t.Fatalf("P1: %s in %d: directly %v, solved %v, lifted %v", what, state, direct, solved, lifted)
		}
		if v := judge.Judge(board.Game, claim); v.Err != api.OK || slices.Contains(claim.Regions[0], 0) != direct || board.Keys[0] != (api.Key{State: state, Node: len(c.Positive()) - 1}) {
			t.Fatalf("P2: %s in %d: %v of %v is %v", what, state, claim, board, v)
		}
	}
	return limits
}

func TestP1P2P6P7(t *testing.T) {
	limits := 0
	for i := range 500 {
		source := samples.New(i)
		s, f := source.System(12), source.Formula(45)
		text, formula := lts.Print(s), syntax.Print(f)
		c := open(t, text, formula)
		limits += checkWays(t, c, formula+" in "+text)
		holds, others := sets.Of(c.All()...), sets.Full(s.States)
		if len(f) < api.MaxNodes {
			negated := open(t, text, "~("+formula+")")
			others = others.Minus(sets.Of(negated.All()...))
			if others != holds {
				t.Fatalf("P6: %s in %q: %v, and what is left of the negation %v", formula, text, holds.List(), others.List())
			}
		}
		classes := bisim.Classes(s)
		for a := range classes {
			for b := range classes {
				if classes[a] == classes[b] && holds.Has(a) != holds.Has(b) {
					t.Fatalf("P7: %s in %q: %d and %d are alike", formula, text, a, b)
				}
			}
		}
	}
	if limits == 0 {
		t.Error("no game was beyond the limit")
	}
}

func TestP1Limit(t *testing.T) {
	text := "states 13\n"
	for from := range 13 {
		for to := range 13 {
			text += "edge " + number(from) + " a " + number(to) + "\n"
		}
	}
	const formula = "<a><a><a><a><a><a><a><a><a><a><a><a><a><a>p & (p | (q | tt)) & (ff | (p | tt))"
	for _, x := range []struct {
		more string
		want api.Errno
	}{{"", api.OK}, {" & (mu X. q | q)", api.OK}, {" & (q | (q | q))", api.ErrLimit}} {
		c := open(t, text, formula+x.more)
		holds, wrong := c.Direct(12)
		if holds || wrong != api.OK {
			t.Errorf("P1: directly %v, %d", holds, wrong)
		}
		for i, way := range []func(int) (bool, api.Errno){c.Solved, c.Lifted} {
			if holds, wrong := way(12); holds || wrong != x.want {
				t.Errorf("P1: way %d of %q: %v, %d", i, x.more, holds, wrong)
			}
		}
	}
}

func number(n int) string {
	if n > 9 {
		return number(n/10) + number(n%10)
	}
	return string(rune('0' + n))
}

// The second and the third way tell the same of games that come from no formula, too.
func TestP3P5P6Games(t *testing.T) {
	for i := range 300 {
		source := samples.New(i)
		g := source.Game(1+source.Below(50), source.Below(8), 4)
		claim, _ := decomp.Solve(g)
		region, moves := measure.Even(g, measure.Solve(g))
		if !slices.Equal(region, claim.Regions[0]) {
			t.Fatalf("P5: %v: %v and %v", g, region, claim.Regions[0])
		}
		claim.Moves[0] = moves
		if v := judge.Judge(g, claim); v.Err != api.OK {
			t.Fatalf("P5: %v: the moves %v are %v", g, moves, v)
		}
		if dual := game.Dual(g); len(dual.Owner) > 0 {
			if region, _ := measure.Even(dual, measure.Solve(dual)); !slices.Equal(region, claim.Regions[1]) {
				t.Fatalf("P6: the dual of %v: %v", g, region)
			}
		}
	}
}

func TestO3Evidence(t *testing.T) {
	c := open(t, example, "mu X. p | [-]X")
	for state, holds := range []bool{false, true, true} {
		board, claim, wrong := c.Evidence(state)
		want, _ := decomp.Solve(board.Game)
		if wrong != api.OK || slices.Contains(claim.Regions[0], 0) != holds || build.Place(board, api.Key{State: state, Node: 4}) != 0 {
			t.Errorf("O3: at %d: %v, %v, %d", state, board, claim, wrong)
		}
		if !slices.Equal(claim.Regions[0], want.Regions[0]) || !slices.Equal(claim.Regions[1], want.Regions[1]) {
			t.Errorf("O3: at %d: %v, not %v", state, claim, want)
		}
		board.Game.Owner[0], board.Game.Moves[0][0], claim.Regions[0] = 9, 9, nil
	}
	if holds, wrong := c.Solved(1); !holds || wrong != api.OK {
		t.Error("R5: a case shares memory with its evidence")
	}
}
