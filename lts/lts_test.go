package lts_test

import (
	"errors"
	"math"
	"slices"
	"strconv"
	"strings"
	"testing"

	"bailiff/api"
	"bailiff/lts"
	"bailiff/samples"
	"bailiff/sets"
)

func sameProps(a, b api.Prop) bool { return a.Name == b.Name && slices.Equal(a.States, b.States) }

func same(a, b api.System) bool {
	return a.States == b.States && slices.Equal(a.Actions, b.Actions) && slices.Equal(a.Edges, b.Edges) && slices.EqualFunc(a.Props, b.Props, sameProps)
}

func isNothing(s api.System) bool { return same(s, api.System{}) }

func edge(from, action, to int) api.Edge { return api.Edge{From: from, Action: action, To: to} }

func prop(name string, states ...int) api.Prop { return api.Prop{Name: name, States: states} }

func lines(l ...string) string { return strings.Join(l, "\n") }

// right is a right system that has something of all.
func right() api.System {
	return api.System{
		States: 3, Actions: []string{"a", "b_1"}, Edges: []api.Edge{edge(0, 0, 1), edge(0, 1, 0), edge(0, 1, 2), edge(1, 0, 1)},
		Props: []api.Prop{prop("p"), prop("q", 0, 2)},
	}
}

func copyOf(s api.System) api.System {
	s.Actions, s.Edges, s.Props = slices.Clone(s.Actions), slices.Clone(s.Edges), slices.Clone(s.Props)
	for i := range s.Props {
		s.Props[i].States = slices.Clone(s.Props[i].States)
	}
	return s
}

func TestT1Right(t *testing.T) {
	for i, s := range []api.System{right(), {States: 1}, {States: api.MaxStates}, greatest()} {
		if !lts.Right(s) || lts.New(s) == nil || lts.Print(s) == "" {
			t.Errorf("T1: the right system %d", i)
		}
	}
}

// greatest is a right system at all limits.
func greatest() api.System {
	s := api.System{States: api.MaxStates}
	for i := range api.MaxActions {
		s.Actions = append(s.Actions, "act_000"+strconv.Itoa(i))
		s.Props = append(s.Props, api.Prop{Name: "p" + strconv.Itoa(i), States: sets.Full(api.MaxStates).List()})
	}
	for from := range api.MaxStates {
		for a := range api.MaxActions {
			s.Edges = append(s.Edges, api.Edge{From: from, Action: a, To: a})
		}
	}
	for len(s.Edges) < api.MaxEdges {
		s.Edges = append(s.Edges, api.Edge{From: api.MaxStates - 1, Action: api.MaxActions - 1, To: api.MaxActions + len(s.Edges)%192})
	}
	return s
}

func TestT1Wrong(t *testing.T) {
	for what, change := range map[string]func(s *api.System){
		"no states":            func(s *api.System) { *s = api.System{} },
		"states below 0":       func(s *api.System) { *s = api.System{States: -1} },
		"least states":         func(s *api.System) { *s = api.System{States: math.MinInt} },
		"many states":          func(s *api.System) { s.States = api.MaxStates + 1 },
		"actions fall":         func(s *api.System) { s.Actions = []string{"b_1", "a"} },
		"an action twice":      func(s *api.System) { s.Actions = []string{"a", "a"} },
		"an action no name":    func(s *api.System) { s.Actions[0] = "" },
		"an action a variable": func(s *api.System) { s.Actions[0] = "A" },
		"any action":           func(s *api.System) { s.Actions[0] = api.Any },
		"an action too long":   func(s *api.System) { s.Actions[0] = "a12345678" },
		"an action mu":         func(s *api.System) { s.Actions[1] = "mu" },
		"an action a word":     func(s *api.System) { s.Actions[1] = "tt" },
		"an action's byte":     func(s *api.System) { s.Actions[0] = "a b" },
		"an unused action":     func(s *api.System) { s.Actions = append(s.Actions, "c") },
		"a state -1":           func(s *api.System) { s.Edges[0].From = -1 },
		"from no state":        func(s *api.System) { s.Edges[3].From = 3 },
		"to no state":          func(s *api.System) { s.Edges[3].To = 3 },
		"to state -1":          func(s *api.System) { s.Edges[0].To = -1 },
		"no action":            func(s *api.System) { s.Edges[3].Action = 2 },
		"action -1":            func(s *api.System) { s.Edges[0].Action = -1 },
		"edges fall":           func(s *api.System) { s.Edges[0], s.Edges[1] = s.Edges[1], s.Edges[0] },
		"edges fall at the to": func(s *api.System) { s.Edges[1], s.Edges[2] = s.Edges[2], s.Edges[1] },
		"edges fall at from":   func(s *api.System) { s.Edges[2], s.Edges[3] = s.Edges[3], s.Edges[2] },
		"an edge twice":        func(s *api.System) { s.Edges[1] = s.Edges[0] },
		"edges of no actions":  func(s *api.System) { s.Actions = nil },
		"props fall":           func(s *api.System) { s.Props[0], s.Props[1] = s.Props[1], s.Props[0] },
		"a prop twice":         func(s *api.System) { s.Props[1].Name = "p" },
		"a prop no name":       func(s *api.System) { s.Props[1].Name = "tt" },
		"a prop a variable":    func(s *api.System) { s.Props[0].Name = "P" },
		"a prop too long":      func(s *api.System) { s.Props[0].Name = "p12345678" },
		"a prop's states fall": func(s *api.System) { s.Props[1].States = []int{2, 0} },
		"a prop's state twice": func(s *api.System) { s.Props[1].States = []int{2, 2} },
		"a prop's no state":    func(s *api.System) { s.Props[1].States = []int{0, 3} },
		"a prop's state -1":    func(s *api.System) { s.Props[1].States = []int{-1, 0} },
	} {
		s := copyOf(right())
		change(&s)
		checkWrong(t, what, s)
	}
}

func TestT1Many(t *testing.T) {
	for what, change := range map[string]func(s *api.System){
		"actions": func(s *api.System) {
			s.Actions = append(s.Actions, "b")
			s.Edges = append(s.Edges[:len(s.Edges)-1], api.Edge{From: api.MaxStates - 1, Action: api.MaxActions, To: 0})
		},
		"edges": func(s *api.System) {
			s.Edges = append(s.Edges, api.Edge{From: api.MaxStates - 1, Action: api.MaxActions - 1, To: api.MaxStates - 1})
		},
		"props": func(s *api.System) { s.Props = append(s.Props, api.Prop{Name: "q"}) },
	} {
		s := greatest()
		change(&s)
		checkWrong(t, "too many "+what, s)
	}
	long := right()
	long.Edges = make([]api.Edge, 1<<16)
	checkWrong(t, "a long list", long)
}

func checkWrong(t *testing.T, what string, s api.System) {
	t.Helper()
	if lts.Right(s) || lts.Print(s) != "" || lts.New(s) != nil {
		t.Errorf("T1: %s", what)
	}
}

func TestT2Parse(t *testing.T) {
	for _, c := range []struct {
		text string
		want api.System
	}{
		{"states 1", api.System{States: 1}}, {"states 24\n", api.System{States: 24}},
		{lines("states 3", "edge 1 b 2", "edge 0 a 1", "mark p 2 0"), api.System{States: 3, Actions: []string{"a", "b"},
			Edges: []api.Edge{edge(0, 0, 1), edge(1, 1, 2)}, Props: []api.Prop{prop("p", 0, 2)}}},
		{lines("", "# r", "states 2# r", "\t", "mark q", "mark edge 1", "edge 1 mark 0", "", "edge 0 states 0"), api.System{States: 2, Actions: []string{"mark", "states"},
			Edges: []api.Edge{edge(0, 1, 0), edge(1, 0, 0)}, Props: []api.Prop{prop("edge", 1), prop("q")}}},
		{lines("states 2", "edge 0 z 1", "edge 0 b 1", "edge 0 b 0", "edge 1 aB 1"), api.System{States: 2, Actions: []string{"aB", "b", "z"},
			Edges: []api.Edge{edge(0, 1, 0), edge(0, 1, 1), edge(0, 2, 1), edge(1, 0, 1)}}},
	} {
		got, err := lts.Parse(c.text)
		if err != nil || !same(got, c.want) || !lts.Right(got) {
			t.Errorf("T2: %q: %v, %v", c.text, got, err)
		}
	}
}

func checkFault(t *testing.T, text string, want api.Fault) {
	t.Helper()
	got, err := lts.Parse(text)
	var fault *api.Fault
	if !isNothing(got) || !errors.As(err, &fault) || *fault != want {
		t.Errorf("T2: %.60q: %v, %v, want %v", text, got, fault, want)
	}
}

func TestT2Faults(t *testing.T) {
	for _, c := range []struct {
		text string
		at   int
		err  api.Errno
	}{
		{"", 0, api.ErrShort}, {"\n \n", 3, api.ErrShort}, {"states", 6, api.ErrShort}, {"states 0", 7, api.ErrRange}, {"states 25", 7, api.ErrRange},
		{"states 2 3", 9, api.ErrWord}, {"states 2 edge 0 a 1", 9, api.ErrWord}, {"states 2 mark p", 9, api.ErrWord}, {"states\n2", 6, api.ErrWord}, {"states x", 7, api.ErrWord}, {"state 2", 0, api.ErrWord}, {"2", 0, api.ErrWord}, {"States 2", 0, api.ErrWord},
		{"edge 0 a 0", 0, api.ErrWord}, {"states 2\nstates 2", 9, api.ErrWord}, {"states 2\nfoo", 9, api.ErrWord}, {"states 2\n0", 9, api.ErrWord}, {"states 2\nEdge 0 a 0", 9, api.ErrWord},
		{"states 2\nedge", 13, api.ErrShort}, {"states 2\nedge 0", 15, api.ErrShort}, {"states 2\nedge 0 a", 17, api.ErrShort}, {"states 2\nmark", 13, api.ErrShort},
		{"states 2\nedge\n", 13, api.ErrWord}, {"states 2\nedge a", 14, api.ErrWord}, {"states 2\nedge 0 0", 16, api.ErrWord}, {"states 2\nedge 0 A 1", 16, api.ErrWord}, {"states 2\nedge 0 - 1", 16, api.ErrWord},
		{"states 2\nedge 0 tt 1", 16, api.ErrWord}, {"states 2\nedge 0 ff 1", 16, api.ErrWord}, {"states 2\nedge 0 mu 1", 16, api.ErrWord}, {"states 2\nedge 0 nu 9", 16, api.ErrWord},
		{"states 2\nedge 0 a b", 18, api.ErrWord}, {"states 2\nedge 0 a 1 1", 20, api.ErrWord}, {"states 2\nedge 0 a 1 edge 0 b 1", 20, api.ErrWord},
		{"states 2\nedge 2 a 9", 14, api.ErrRange}, {"states 2\nedge 0 a 2", 18, api.ErrRange}, {"states 2\nmark p 0 2", 16 + 2, api.ErrRange},
		{"states 2\nmark tt", 14, api.ErrWord}, {"states 2\nmark P", 14, api.ErrWord}, {"states 2\nmark 0", 14, api.ErrWord}, {"states 2\nmark p 0 q", 18, api.ErrWord}, {"states 2\nmark p :", 16, api.ErrWord},
		{"states 2\nedge 0 a 1\nedge 0 a 1", 29, api.ErrTwice}, {"states 2\nedge 0 a 1\nedge 0 b 1\nedge 0 a 1 1", 40, api.ErrTwice},
		{"states 2\nmark p\nmark p 9", 21, api.ErrTwice}, {"states 1\nmark p 0 0", 18, api.ErrTwice}, {"states 3\nmark p 2 0 2", 20, api.ErrTwice},
		{"states 2\nedge 0 a 1 007", 20, api.ErrNumber}, {"states 0\n_", 9, api.ErrByte}, {"states 2\nedge 0 abcdefghi 1", 16, api.ErrName}, {strings.Repeat("#", api.MaxText+1), api.MaxText, api.ErrText},
	} {
		checkFault(t, c.text, api.Fault{At: c.at, Err: c.err})
	}
}

func TestT2Many(t *testing.T) {
	text := "states 24\n"
	for a := range api.MaxActions {
		text += "edge 0 a" + strconv.Itoa(a) + " 0\n"
	}
	checkFault(t, text+"edge 0 b 99", api.Fault{At: len(text) + 7, Err: api.ErrMany})
	checkFault(t, text+"edge 0 nu 99", api.Fault{At: len(text) + 7, Err: api.ErrWord})
	if got, err := lts.Parse(text + "edge 1 a3 1"); err != nil || len(got.Edges) != api.MaxActions+1 {
		t.Errorf("T2: an old action, when there are MaxActions: %v", err)
	}
	text = "states 24\n"
	for p := range api.MaxProps {
		text += "mark p" + strconv.Itoa(p) + " 0\n"
	}
	for _, name := range []string{"q", "p0"} {
		checkFault(t, text+"mark "+name, api.Fault{At: len(text) + 5, Err: api.ErrMany})
	}
	checkFault(t, text+"mark tt", api.Fault{At: len(text) + 5, Err: api.ErrWord})
	text = "states 24\n"
	for e := range api.MaxEdges {
		text += "edge " + strconv.Itoa(e/20) + " a " + strconv.Itoa(e%20) + "\n"
	}
	if got, err := lts.Parse(text); err != nil || len(got.Edges) != api.MaxEdges {
		t.Errorf("T2: MaxEdges edges: %v", err)
	}
	checkFault(t, text+"edge x", api.Fault{At: len(text), Err: api.ErrMany})
	checkFault(t, text+"edge 0 a 0", api.Fault{At: len(text), Err: api.ErrMany})
}

func TestT3Print(t *testing.T) {
	want := "states 3\nedge 0 a 1\nedge 0 b_1 0\nedge 0 b_1 2\nedge 1 a 1\nmark p\nmark q 0 2\n"
	if got := lts.Print(right()); got != want {
		t.Errorf("T3: %q", got)
	}
	if got := lts.Print(api.System{States: 12}); got != "states 12\n" {
		t.Errorf("T3: %q", got)
	}
}

func TestT4Table(t *testing.T) {
	s, _ := lts.Parse(lines("states 3", "edge 1 b 2", "edge 0 a 1", "edge 0 b 0", "mark p 2 0", "mark q"))
	table := lts.New(s)
	if table.States() != 3 || table.Holds("p") != sets.Of(0, 2) || table.Holds("q") != sets.Of() || table.Holds("r") != sets.Of() || table.Holds("") != sets.Of() {
		t.Error("T4: States or Holds")
	}
	for _, c := range []struct {
		state  int
		action string
		want   sets.Set
	}{
		{0, "-", sets.Of(0, 1)}, {0, "a", sets.Of(1)}, {0, "b", sets.Of(0)}, {1, "-", sets.Of(2)}, {1, "a", sets.Of()}, {2, "-", sets.Of()},
		{3, "-", sets.Of()}, {-1, "a", sets.Of()}, {math.MaxInt, "a", sets.Of()}, {0, "c", sets.Of()}, {0, "", sets.Of()},
	} {
		if got := table.Next(c.state, c.action); got != c.want {
			t.Errorf("T4: Next(%d, %s): %v", c.state, c.action, got.List())
		}
	}
	for _, c := range []struct {
		to     sets.Set
		action string
		want   sets.Set
	}{
		{sets.Of(2), "b", sets.Of(1)}, {sets.Of(2), "a", sets.Of()}, {sets.Of(0, 2), "-", sets.Of(0, 1)}, {sets.Of(1), "-", sets.Of(0)},
		{sets.Full(256), "b", sets.Of(0, 1)}, {sets.Of(3, 255), "-", sets.Of()}, {sets.Of(), "-", sets.Of()}, {sets.Full(3), "c", sets.Of()},
	} {
		if got := table.Back(c.to, c.action); got != c.want {
			t.Errorf("T4: Back(%v, %s): %v", c.to.List(), c.action, got.List())
		}
	}
}

func TestT4KeepsNothing(t *testing.T) {
	s := copyOf(right())
	table := lts.New(s)
	s.Actions[0], s.Edges[0].To, s.Props[1].Name, s.Props[1].States[0] = "z", 2, "z", 1
	if table.Next(0, "a") != sets.Of(1) || table.Holds("q") != sets.Of(0, 2) || table.Next(0, "z") != sets.Of() {
		t.Error("R5: a table shares memory with its system")
	}
}

func TestFollowsRoundTrip(t *testing.T) {
	for i := range 300 {
		source := samples.New(i)
		s := source.System(api.MaxStates)
		if !lts.Right(s) {
			t.Fatalf("a sample that is not right: %v", s)
		}
		text := lts.Print(s)
		got, err := lts.Parse(text)
		if err != nil || !same(got, s) {
			t.Fatalf("P8: %q", text)
		}
		rest := strings.Split(text, "\n")[1:]
		for j := range rest {
			k := source.Below(len(rest))
			rest[j], rest[k] = rest[k], rest[j]
		}
		got, err = lts.Parse("states " + strconv.Itoa(s.States) + "\n" + strings.Join(rest, " # r\n\n"))
		if err != nil || !same(got, s) || lts.Print(got) != text {
			t.Fatalf("the order of lines matters: %q, %v", rest, err)
		}
	}
}

func TestFollowsBackAndNext(t *testing.T) {
	for i := range 100 {
		source := samples.New(i)
		s := source.System(8)
		table := lts.New(s)
		to := sets.Set{source.Word()}
		for _, action := range append(slices.Clone(s.Actions), "-", "zz") {
			back := table.Back(to, action)
			for state := range s.States {
				want := slices.ContainsFunc(s.Edges, func(e api.Edge) bool {
					return e.From == state && to.Has(e.To) && (action == "-" || s.Actions[e.Action] == action)
				})
				if back.Has(state) != want || (table.Next(state, action).And(to).Len() > 0) != want {
					t.Fatalf("T4: state %d by %s of %v", state, action, s)
				}
			}
			if !back.In(sets.Full(s.States)) {
				t.Fatalf("T4: Back has what is no state: %v", back.List())
			}
		}
	}
}
