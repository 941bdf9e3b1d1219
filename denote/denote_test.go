package denote_test

import (
	"slices"
	"strings"
	"testing"

	"bailiff/api"
	"bailiff/denote"
	"bailiff/lts"
	"bailiff/norm"
	"bailiff/samples"
	"bailiff/sets"
	"bailiff/syntax"
)

const example = "states 3\nedge 0 a 1\nedge 1 a 2\nedge 2 a 2\nedge 0 b 0\nmark p 2\n"

func parse(t *testing.T, text string) []api.Node {
	t.Helper()
	f, err := syntax.Parse(text)
	if err != nil {
		t.Fatalf("%q: %v", text, err)
	}
	return f
}

func table(t *testing.T, text string) *lts.Table {
	t.Helper()
	s, err := lts.Parse(text)
	if err != nil {
		t.Fatalf("%q: %v", text, err)
	}
	return lts.New(s)
}

func TestD1Eval(t *testing.T) {
	system := table(t, example)
	for text, want := range map[string]sets.Set{
		"p": sets.Of(2), "<a>p": sets.Of(1, 2), "[b]p": sets.Of(1, 2), "mu X. p | <->X": sets.Of(0, 1, 2), "mu X. p | [-]X": sets.Of(1, 2),
		"nu X. <b>X": sets.Of(0), "nu X. mu Y. (<a>X & p) | <a>Y": sets.Of(0, 1, 2), "<zz>tt": sets.Of(), "[zz]ff": sets.Of(0, 1, 2), "~p": sets.Of(0, 1),
		"~mu X. p | <->X": sets.Of(), "tt": sets.Of(0, 1, 2), "ff": sets.Of(), "q": sets.Of(), "~q": sets.Of(0, 1, 2), "p & ~p": sets.Of(), "p | <a>p": sets.Of(1, 2),
		"mu X. X": sets.Of(), "nu X. X": sets.Of(0, 1, 2), "<->p": sets.Of(1, 2), "[-]p": sets.Of(1, 2), "[a]p": sets.Of(1, 2), "<b>tt": sets.Of(0), "[b]ff": sets.Of(1, 2),
		"mu X. [-]X": sets.Of(), "mu X. ~~[b]X": sets.Of(1, 2), "nu X. ~(p | <->~X)": sets.Of(), "nu X. <a>X & ~<b>tt": sets.Of(1, 2),
		"mu X. nu Y. (<->X & ~p) | (p & <a>Y)": sets.Of(0, 1, 2), "mu X. nu Y. X | <b>Y": sets.Of(0),
	} {
		if got, wrong := denote.Eval(system, parse(t, text)); got != want || wrong != api.OK {
			t.Errorf("D1: %q: %v, %d, want %v", text, got.List(), wrong, want.List())
		}
	}
	if got, wrong := denote.Eval(system, []api.Node{{Kind: api.FNProp, Name: "p"}}); got != sets.Of(0, 1) || wrong != api.OK {
		t.Errorf("D1: an FNProp: %v, %d", got.List(), wrong)
	}
	if got, wrong := denote.Eval(system, []api.Node{{Kind: api.FNProp, Name: "p"}, {Kind: api.FNot}}); got != sets.Of(2) || wrong != api.OK {
		t.Errorf("D1: a wide formula: %v, %d", got.List(), wrong)
	}
}

func TestD1All(t *testing.T) {
	system := table(t, example)
	for text, want := range map[string][]sets.Set{
		"<a>p & ~q":         {sets.Of(2), sets.Of(1, 2), sets.Of(), sets.Of(0, 1, 2), sets.Of(1, 2)},
		"mu X. p | [-]X":    {sets.Of(2), sets.Of(1, 2), sets.Of(1, 2), sets.Of(1, 2), sets.Of(1, 2)},
		"nu X. <b>X":        {sets.Of(0), sets.Of(0), sets.Of(0)},
		"mu X. nu Y. X | p": {sets.Of(2), sets.Of(2), sets.Of(2), sets.Of(2), sets.Of(2)},
		"nu X. [b](mu Y. p | <a>Y) & X": {sets.Of(2), sets.Of(0, 1, 2), sets.Of(0, 1, 2), sets.Of(0, 1, 2), sets.Of(0, 1, 2), sets.Of(0, 1, 2), sets.Of(0, 1, 2),
			sets.Of(0, 1, 2), sets.Of(0, 1, 2)},
	} {
		got, wrong := denote.All(system, parse(t, text))
		if !slices.Equal(got, want) || wrong != api.OK {
			t.Errorf("D1: %q: %v, %d", text, got, wrong)
		}
	}
}

func TestD1Wrong(t *testing.T) {
	system := table(t, example)
	for i, f := range [][]api.Node{
		nil, {}, make([]api.Node, 1), make([]api.Node, 100), parse(t, "X"), parse(t, "mu X. ~X"), parse(t, "mu X. nu X. X"), parse(t, "mu A. mu B. mu C. mu D. mu E. p"), {{Kind: api.FNProp, Name: "P"}},
	} {
		set, wrong := denote.Eval(system, f)
		if set != (sets.Set{}) || wrong != api.ErrArg {
			t.Errorf("D1: Eval of the wrong formula %d: %v, %d", i, set, wrong)
		}
		all, wrong := denote.All(system, f)
		if len(all) != 0 || wrong != api.ErrArg {
			t.Errorf("D1: All of the wrong formula %d: %v, %d", i, all, wrong)
		}
	}
}

// byWords is what a node holds in, fixpoints being found among all sets of states.
type byWords struct {
	s api.System
	f []api.Node
}

func (w byWords) holds(at int, scope map[string]sets.Set) sets.Set {
	var in sets.Set
	for state := range w.s.States {
		if w.holdsIn(at, state, scope) {
			in = in.With(state)
		}
	}
	return in
}

func (w byWords) holdsIn(at, state int, scope map[string]sets.Set) bool {
	switch n := w.f[at]; n.Kind {
	case api.FTrue:
		return true
	case api.FProp, api.FNProp:
		marked := slices.ContainsFunc(w.s.Props, func(p api.Prop) bool { return p.Name == n.Name && slices.Contains(p.States, state) })
		return marked == (n.Kind == api.FProp)
	case api.FVar:
		return scope[n.Name].Has(state)
	case api.FNot:
		return !w.holdsIn(n.A, state, scope)
	case api.FAnd:
		return w.holdsIn(n.A, state, scope) && w.holdsIn(n.B, state, scope)
	case api.FOr:
		return w.holdsIn(n.A, state, scope) || w.holdsIn(n.B, state, scope)
	case api.FDia, api.FBox:
		for _, e := range w.s.Edges {
			if e.From == state && (n.Name == "-" || w.s.Actions[e.Action] == n.Name) && w.holdsIn(n.A, e.To, scope) == (n.Kind == api.FDia) {
				return n.Kind == api.FDia
			}
		}
		return n.Kind == api.FBox
	case api.FMu, api.FNu:
		return w.fixpoint(at, scope).Has(state)
	}
	return false
}

// fixpoint is what all sets that A keeps within have in common, or what some set that A keeps whole has.
func (w byWords) fixpoint(at int, scope map[string]sets.Set) sets.Set {
	n := w.f[at]
	least, greatest := sets.Full(w.s.States), sets.Set{}
	inner := map[string]sets.Set{}
	for name, set := range scope {
		inner[name] = set
	}
	for bits := range 1 << w.s.States {
		set := sets.Set{uint64(bits)}
		inner[n.Name] = set
		made := w.holds(n.A, inner)
		if made.In(set) {
			least = least.And(set)
		}
		if set.In(made) {
			greatest = greatest.Or(set)
		}
	}
	if n.Kind == api.FMu {
		return least
	}
	return greatest
}

func TestFollowsByWords(t *testing.T) {
	for i := range 250 {
		source := samples.New(i)
		s, f := source.System(3), source.Formula(14)
		got, wrong := denote.Eval(lts.New(s), f)
		if want := (byWords{s, f}).holds(len(f)-1, nil); got != want || wrong != api.OK {
			t.Fatalf("D1: %s in %q: %v, want %v", syntax.Print(f), lts.Print(s), got.List(), want.List())
		}
	}
}

func TestFollowsNodes(t *testing.T) {
	for i := range 400 {
		source := samples.New(i)
		s, f := source.System(8), source.Formula(40)
		system := lts.New(s)
		all, _ := denote.All(system, f)
		eval, _ := denote.Eval(system, f)
		states := sets.Full(s.States)
		if len(all) != len(f) || all[len(f)-1] != eval {
			t.Fatalf("D1: Eval is not the last of All: %s", syntax.Print(f))
		}
		for at, n := range f {
			want := all[at]
			switch n.Kind {
			case api.FAnd:
				want = all[n.A].And(all[n.B])
			case api.FOr:
				want = all[n.A].Or(all[n.B])
			case api.FNot:
				want = states.Minus(all[n.A])
			case api.FMu, api.FNu:
				want = all[n.A]
			case api.FDia:
				want = system.Back(all[n.A], n.Name)
			case api.FBox:
				want = states.Minus(system.Back(states.Minus(all[n.A]), n.Name))
			case api.FVar:
				want = all[slices.IndexFunc(f, func(b api.Node) bool { return b.Name == n.Name && b.Kind != api.FVar })]
			}
			if all[at] != want || !want.In(states) {
				t.Fatalf("D1: %s in %q: node %d", syntax.Print(f), lts.Print(s), at)
			}
		}
		positive, _ := denote.Eval(system, norm.Positive(f))
		negated, _ := denote.Eval(system, norm.Negate(f))
		if positive != eval || negated != states.Minus(eval) {
			t.Fatalf("D1: %s in %q: positive %v, negated %v, itself %v", syntax.Print(f), lts.Print(s), positive.List(), negated.List(), eval.List())
		}
	}
}

// turned is a system whose states are numbered the other way round.
func turned(s api.System) api.System {
	last := s.States - 1
	for i, e := range s.Edges {
		s.Edges[i] = api.Edge{From: last - e.From, Action: e.Action, To: last - e.To}
	}
	slices.SortFunc(s.Edges, func(a, b api.Edge) int {
		return slices.Compare([]int{a.From, a.Action, a.To}, []int{b.From, b.Action, b.To})
	})
	for _, p := range s.Props {
		for i := range p.States {
			p.States[i] = last - p.States[i]
		}
		slices.Sort(p.States)
	}
	return s
}

func TestFollowsNumbersAndNames(t *testing.T) {
	for i := range 200 {
		source := samples.New(i)
		s, f := source.System(10), source.Formula(30)
		first, _ := denote.Eval(lts.New(s), f)
		for at := range f {
			if strings.HasPrefix(f[at].Name, "X") {
				f[at].Name = "Y_" + f[at].Name
			}
		}
		s = turned(s)
		second, wrong := denote.Eval(lts.New(s), f)
		for state := range s.States {
			if first.Has(state) != second.Has(s.States-1-state) || wrong != api.OK {
				t.Fatalf("D1: %s: numbers or names matter: %v, %v", syntax.Print(f), first.List(), second.List())
			}
		}
	}
}

func TestR5Untouched(t *testing.T) {
	system, f := table(t, example), parse(t, "mu X. p | ~~[-]X")
	before := slices.Clone(f)
	all, _ := denote.All(system, f)
	all[0] = sets.Full(9)
	again, _ := denote.All(system, f)
	if !slices.Equal(f, before) || again[0] != sets.Of(2) {
		t.Error("R5: nodes were written into, or an answer kept")
	}
}
