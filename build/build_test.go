package build_test

import (
	"slices"
	"testing"

	"bailiff/api"
	"bailiff/build"
	"bailiff/denote"
	"bailiff/game"
	"bailiff/lts"
	"bailiff/norm"
	"bailiff/rank"
	"bailiff/samples"
	"bailiff/syntax"
)

const example = "states 3\nedge 0 a 1\nedge 1 a 2\nedge 2 a 2\nedge 0 b 0\nmark p 2\n"

func parse(t *testing.T, text string) []api.Node {
	t.Helper()
	f, err := syntax.Parse(text)
	if err != nil {
		t.Fatalf("%q: %v", text, err)
	}
	return f
}

func table(t *testing.T, text string) *lts.Table {
	t.Helper()
	s, err := lts.Parse(text)
	if err != nil {
		t.Fatalf("%q: %v", text, err)
	}
	return lts.New(s)
}

func same(a, b api.Board) bool {
	return slices.Equal(a.Keys, b.Keys) && slices.Equal(a.Game.Owner, b.Game.Owner) && slices.Equal(a.Game.Priority, b.Game.Priority) &&
		slices.EqualFunc(a.Game.Moves, b.Game.Moves, slices.Equal[[]int])
}

func board(owner, priority []int, moves [][]int, keys ...api.Key) api.Board {
	return api.Board{Game: api.Game{Owner: owner, Priority: priority, Moves: moves}, Keys: keys}
}

func key(state, node int) api.Key { return api.Key{State: state, Node: node} }

func TestU1Examples(t *testing.T) {
	for _, c := range []struct {
		text  string
		state int
		want  api.Board
	}{
		{"<a>p", 0, board([]int{0, 0}, []int{0, 1}, [][]int{{1}, {1}}, key(0, 1), key(1, 0))},
		{"mu X. X", 0, board([]int{0, 0}, []int{1, 0}, [][]int{{1}, {0}}, key(0, 1), key(0, 0))},
		{"nu X. X", 2, board([]int{0, 0}, []int{0, 0}, [][]int{{1}, {0}}, key(2, 1), key(2, 0))},
		{"[b]tt", 1, board([]int{1}, []int{0}, [][]int{{0}}, key(1, 1))},
		{"<b>tt", 1, board([]int{0}, []int{1}, [][]int{{0}}, key(1, 1))},
		{"[-]tt", 0, board([]int{1, 0, 0}, []int{0, 0, 0}, [][]int{{1, 2}, {1}, {2}}, key(0, 1), key(0, 0), key(1, 0))},
		{"<->ff", 2, board([]int{0, 0}, []int{0, 1}, [][]int{{1}, {1}}, key(2, 1), key(2, 0))},
		{"p", 2, board([]int{0}, []int{0}, [][]int{{0}}, key(2, 0))}, {"p", 1, board([]int{0}, []int{1}, [][]int{{0}}, key(1, 0))},
		{"q", 2, board([]int{0}, []int{1}, [][]int{{0}}, key(2, 0))}, {"tt", 0, board([]int{0}, []int{0}, [][]int{{0}}, key(0, 0))}, {"ff", 0, board([]int{0}, []int{1}, [][]int{{0}}, key(0, 0))},
		{"p & ~p", 2, board([]int{1, 0, 0}, []int{0, 0, 1}, [][]int{{1, 2}, {1}, {2}}, key(2, 2), key(2, 0), key(2, 1))},
		{"p | ~p", 0, board([]int{0, 0, 0}, []int{0, 1, 0}, [][]int{{1, 2}, {1}, {2}}, key(0, 2), key(0, 0), key(0, 1))},
		{"[zz]ff", 0, board([]int{1}, []int{0}, [][]int{{0}}, key(0, 1))},
		{"nu X. mu Y. (<a>X & p) | <a>Y", 2, board([]int{0, 0, 0, 1, 0, 0, 0, 0, 0}, []int{2, 1, 0, 0, 0, 0, 0, 0, 0},
			[][]int{{1}, {2}, {3, 4}, {5, 6}, {7}, {8}, {6}, {1}, {0}}, key(2, 8), key(2, 7), key(2, 6), key(2, 3), key(2, 5), key(2, 1), key(2, 2), key(2, 4), key(2, 0))},
	} {
		got, wrong := build.Build(table(t, example), norm.Positive(parse(t, c.text)), c.state)
		if wrong != api.OK || !same(got, c.want) {
			t.Errorf("U1: %q at %d: %v, %d, want %v", c.text, c.state, got, wrong, c.want)
		}
	}
}

func TestU1Wrong(t *testing.T) {
	system := table(t, example)
	for _, c := range []struct {
		f     []api.Node
		state int
	}{
		{nil, 0}, {make([]api.Node, 1), 0}, {make([]api.Node, 99), 0}, {parse(t, "X"), 0}, {parse(t, "~p"), 0}, {parse(t, "mu X. nu X. X"), 0}, {parse(t, "p"), 3}, {parse(t, "p"), -1}, {parse(t, "p"), 1 << 62},
	} {
		if got, wrong := build.Build(system, c.f, c.state); wrong != api.ErrArg || !same(got, api.Board{}) {
			t.Errorf("U1: %v at %d: %v, %d", c.f, c.state, got, wrong)
		}
	}
}

// complete is a system in which edges lead from each state to each.
func complete(states int) *lts.Table {
	s := api.System{States: states, Actions: []string{"a"}}
	for from := range states {
		for to := range states {
			if len(s.Edges) < api.MaxEdges {
				s.Edges = append(s.Edges, api.Edge{From: from, To: to})
			}
		}
	}
	return lts.New(s)
}

func TestU1Limit(t *testing.T) {
	text := "<a>p"
	for range 19 {
		text = "<a>" + text
	}
	f := parse(t, text)
	for _, c := range []struct{ states, want int }{{9, 181}, {10, 0}, {11, 0}, {14, 0}} {
		got, wrong := build.Build(complete(c.states), f, 0)
		if len(got.Keys) != c.want || len(got.Game.Owner) != c.want || (wrong == api.ErrLimit) != (c.want == 0) {
			t.Errorf("U1: of %d states: %d positions, %d", c.states, len(got.Keys), wrong)
		}
	}
	// 195 positions, and then 5 or 6 more.
	text = "<a><a><a><a><a><a><a><a><a><a><a><a><a><a>p & (p | (q | tt)) & (ff | (p | tt))"
	for _, c := range []struct {
		more string
		want int
		err  api.Errno
	}{{"", 195, api.OK}, {" & (mu X. q | q)", api.MaxPositions, api.OK}, {" & (q | (q | q))", 0, api.ErrLimit}} {
		got, wrong := build.Build(complete(13), parse(t, text+c.more), 0)
		if wrong != c.err || len(got.Keys) != c.want || len(got.Game.Moves) != c.want {
			t.Errorf("U1: %q: %d positions, %d", c.more, len(got.Keys), wrong)
		}
	}
}

func TestU2Place(t *testing.T) {
	b, _ := build.Build(table(t, example), parse(t, "nu X. mu Y. (<a>X & p) | <a>Y"), 0)
	for i, k := range b.Keys {
		if got := build.Place(b, k); got != i {
			t.Errorf("U2: %v is at %d, not at %d", k, got, i)
		}
	}
	for _, k := range []api.Key{key(3, 0), key(-1, 8), key(0, 9), key(0, -1)} {
		if got := build.Place(b, k); got != -1 {
			t.Errorf("U2: %v is at %d", k, got)
		}
	}
	odd := api.Board{Keys: []api.Key{key(-5, 7), key(1, 1), key(-5, 7)}}
	if build.Place(odd, key(-5, 7)) != 0 || build.Place(odd, key(1, 1)) != 1 || build.Place(api.Board{}, key(0, 0)) != -1 {
		t.Error("U2: of any board")
	}
}

// byWords is the position of a pair as the table words it: its owner, its priority, and the pairs to which its moves lead.
func byWords(s api.System, f []api.Node, ranks []int, k api.Key) (owner, priority int, to []api.Key) {
	n := f[k.Node]
	holds := slices.ContainsFunc(s.Props, func(p api.Prop) bool { return p.Name == n.Name && slices.Contains(p.States, k.State) })
	switch n.Kind {
	case api.FTrue, api.FFalse, api.FProp, api.FNProp:
		if n.Kind == api.FFalse || n.Kind == api.FProp && !holds || n.Kind == api.FNProp && holds {
			return 0, 1, []api.Key{k}
		}
		return 0, 0, []api.Key{k}
	case api.FVar:
		fix := slices.IndexFunc(f, func(b api.Node) bool { return b.Name == n.Name && (b.Kind == api.FMu || b.Kind == api.FNu) })
		return 0, 0, []api.Key{key(k.State, fix)}
	case api.FAnd:
		return 1, 0, []api.Key{key(k.State, n.A), key(k.State, n.B)}
	case api.FOr:
		return 0, 0, []api.Key{key(k.State, n.A), key(k.State, n.B)}
	case api.FMu, api.FNu:
		return 0, ranks[k.Node], []api.Key{key(k.State, n.A)}
	}
	for state := range s.States {
		if slices.ContainsFunc(s.Edges, func(e api.Edge) bool {
			return e.From == k.State && e.To == state && (n.Name == "-" || n.Name == s.Actions[e.Action])
		}) {
			to = append(to, key(state, n.A))
		}
	}
	owner = n.Kind - api.FDia
	if len(to) == 0 {
		return owner, 1 - owner, []api.Key{k}
	}
	return owner, 0, to
}

// allPairs are the pairs that can be come to, in the order in which they are met.
func allPairs(s api.System, f []api.Node, state int) []api.Key {
	ranks := rank.Ranks(f)
	met := []api.Key{key(state, len(f)-1)}
	for i := 0; i < len(met); i++ {
		_, _, to := byWords(s, f, ranks, met[i])
		for _, k := range to {
			if !slices.Contains(met, k) {
				met = append(met, k)
			}
		}
	}
	return met
}

func TestFollowsTable(t *testing.T) {
	limits := 0
	for i := range 3000 {
		source := samples.New(i)
		s, f := source.System(2+i%22), source.Positive(20+i%40)
		state := source.Below(s.States)
		b, wrong := build.Build(lts.New(s), f, state)
		pairs := allPairs(s, f, state)
		if (wrong == api.ErrLimit) != (len(pairs) > api.MaxPositions) {
			t.Fatalf("U1: of %d pairs: %d", len(pairs), wrong)
		}
		if wrong == api.ErrLimit {
			limits++
			continue
		}
		if _, wrong := game.Right(b.Game); wrong != api.OK || !slices.Equal(b.Keys, pairs) {
			t.Fatalf("U1: not right, or of other pairs than %v: %v", pairs, b)
		}
		ranks := rank.Ranks(f)
		for at, k := range b.Keys {
			owner, priority, to := byWords(s, f, ranks, k)
			var moves []int
			for _, k := range to {
				moves = append(moves, slices.Index(pairs, k))
			}
			slices.Sort(moves)
			if b.Game.Owner[at] != owner || b.Game.Priority[at] != priority || !slices.Equal(b.Game.Moves[at], moves) || build.Place(b, k) != at {
				t.Fatalf("U1: position %d of %v: owner %d, priority %d, moves %v", at, b, owner, priority, moves)
			}
		}
	}
	if limits < 5 {
		t.Errorf("only %d games were beyond the limit", limits)
	}
}

func TestFollowsWinner(t *testing.T) {
	tried := 0
	for i := range 600 {
		source := samples.New(i)
		s, f := source.System(3), source.Positive(12)
		system := lts.New(s)
		all, _ := denote.All(system, f)
		for state := range s.States {
			b, wrong := build.Build(system, f, state)
			if won, ok := samples.Winners(b.Game); ok && wrong == api.OK {
				tried++
				for at, k := range b.Keys {
					if won[at] != all[k.Node].Has(k.State) {
						t.Fatalf("U1: %v in %q: %v is won: %v", f, lts.Print(s), k, won[at])
					}
				}
			}
		}
	}
	if tried < 500 {
		t.Errorf("only %d games were tried", tried)
	}
}

func TestR5(t *testing.T) {
	f := parse(t, "nu X. mu Y. (<a>X & p) | <a>Y")
	before := slices.Clone(f)
	system := table(t, example)
	b, _ := build.Build(system, f, 2)
	b.Keys[0], b.Game.Owner[0], b.Game.Moves[0][0] = key(9, 9), 9, 9
	for _, l := range b.Game.Moves {
		_ = append(l, 99, 99)
	}
	if slices.ContainsFunc(b.Game.Moves, func(l []int) bool { return slices.Contains(l, 99) }) {
		t.Error("R5: two lists of one answer share memory")
	}
	again, _ := build.Build(system, f, 2)
	if !slices.Equal(f, before) || again.Keys[0] != key(2, 8) || again.Game.Moves[0][0] != 1 {
		t.Error("R5: nodes were written into, or an answer kept")
	}
}
