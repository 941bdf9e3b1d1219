package bisim_test

import (
	"slices"
	"strings"
	"testing"

	"bailiff/api"
	"bailiff/bisim"
	"bailiff/denote"
	"bailiff/lts"
	"bailiff/samples"
	"bailiff/syntax"
)

func system(t *testing.T, l ...string) api.System {
	t.Helper()
	s, err := lts.Parse(strings.Join(l, "\n"))
	if err != nil {
		t.Fatalf("%q: %v", l, err)
	}
	return s
}

func sameProps(a, b api.Prop) bool { return a.Name == b.Name && slices.Equal(a.States, b.States) }

func same(a, b api.System) bool {
	return a.States == b.States && slices.Equal(a.Actions, b.Actions) && slices.Equal(a.Edges, b.Edges) && slices.EqualFunc(a.Props, b.Props, sameProps)
}

func TestQ1Q2Examples(t *testing.T) {
	for _, x := range []struct {
		lines, quotient []string
		classes         []int
	}{
		{[]string{"states 4", "edge 0 a 1", "edge 0 a 2", "edge 1 a 3", "edge 2 a 3", "mark p 3"}, []string{"states 3", "edge 0 a 1", "edge 1 a 2", "mark p 2"}, []int{0, 1, 1, 2}},
		{[]string{"states 2", "edge 0 a 1", "edge 1 a 0"}, []string{"states 1", "edge 0 a 0"}, []int{0, 0}},
		{[]string{"states 1"}, []string{"states 1"}, []int{0}}, {[]string{"states 3"}, []string{"states 1"}, []int{0, 0, 0}}, {[]string{"states 3", "mark p", "mark q 1"}, []string{"states 2", "mark p", "mark q 1"}, []int{0, 1, 0}},
		{[]string{"states 3", "mark p 0 1 2"}, []string{"states 1", "mark p 0"}, []int{0, 0, 0}}, {[]string{"states 2", "mark p 0", "mark q 1"}, []string{"states 2", "mark p 0", "mark q 1"}, []int{0, 1}},
		// A way that ends, and those that end later.
		{[]string{"states 4", "edge 0 a 1", "edge 1 a 2", "edge 3 a 2"}, []string{"states 3", "edge 0 a 1", "edge 1 a 2"}, []int{0, 1, 2, 1}},
		// By one action or by the other one, or by both.
		{[]string{"states 4", "edge 0 a 3", "edge 1 b 3", "edge 2 a 3", "edge 2 b 3"}, []string{"states 4", "edge 0 a 3", "edge 1 b 3", "edge 2 a 3", "edge 2 b 3"}, []int{0, 1, 2, 3}},
		// a.(b + c) and a.b + a.c.
		{[]string{"states 7", "edge 0 a 1", "edge 1 b 6", "edge 1 c 6", "edge 2 a 3", "edge 2 a 4", "edge 3 b 6", "edge 4 c 6", "edge 5 a 1"},
			[]string{"states 6", "edge 0 a 1", "edge 1 b 5", "edge 1 c 5", "edge 2 a 3", "edge 2 a 4", "edge 3 b 5", "edge 4 c 5"}, []int{0, 1, 2, 3, 4, 0, 5}},
	} {
		s := system(t, x.lines...)
		if got := bisim.Classes(s); !slices.Equal(got, x.classes) {
			t.Errorf("Q1: %q: %v", x.lines, got)
		}
		quotient, classes := bisim.Quotient(s)
		if !same(quotient, system(t, x.quotient...)) || !slices.Equal(classes, x.classes) {
			t.Errorf("Q2: %q: %v, %v", x.lines, quotient, classes)
		}
	}
}

// Two states that differ by the last action alone, and two that differ by the last proposition alone.
func TestQ1MostActionsAndProps(t *testing.T) {
	lines := []string{"states 4"}
	for i := range api.MaxActions {
		a := string(rune('a' + i))
		if i < api.MaxActions-1 {
			lines = append(lines, "edge 0 "+a+" 3", "edge 1 "+a+" 3", "mark p"+a+" 2 3")
		} else {
			lines = append(lines, "edge 0 "+a+" 3", "mark p"+a+" 2")
		}
	}
	if got := bisim.Classes(system(t, lines...)); !slices.Equal(got, []int{0, 1, 2, 3}) {
		t.Errorf("Q1: %v", got)
	}
}

func TestNotRight(t *testing.T) {
	for i, s := range []api.System{{}, {States: -1}, {States: 25}, {States: 1, Actions: []string{"a"}}, {States: 1, Edges: []api.Edge{{}}}, {States: 1, Props: []api.Prop{{Name: "p", States: []int{1}}}}} {
		quotient, classes := bisim.Quotient(s)
		if len(bisim.Classes(s)) != 0 || len(classes) != 0 || !same(quotient, api.System{}) {
			t.Errorf("Q1, Q2: of the wrong system %d: %v, %v", i, quotient, classes)
		}
	}
}

// answers tells whether each edge from one state has one from another state by the same action, to states that are related.
func answers(s api.System, related [][]bool, one, other int) bool {
	for _, e := range s.Edges {
		if e.From == one && !slices.ContainsFunc(s.Edges, func(d api.Edge) bool { return d.From == other && d.Action == e.Action && related[e.To][d.To] }) {
			return false
		}
	}
	return true
}

// byWords is the greatest relation: all pairs, of which those that are told apart are taken away.
func byWords(s api.System) [][]bool {
	related := make([][]bool, s.States)
	for a := range related {
		related[a] = make([]bool, s.States)
		for b := range related {
			related[a][b] = !slices.ContainsFunc(s.Props, func(p api.Prop) bool { return slices.Contains(p.States, a) != slices.Contains(p.States, b) })
		}
	}
	for gone := true; gone; {
		gone = false
		for a := range related {
			for b := range related {
				if related[a][b] && !(answers(s, related, a, b) && answers(s, related, b, a)) {
					related[a][b], gone = false, true
				}
			}
		}
	}
	return related
}

func TestFollows(t *testing.T) {
	merged := 0
	for i := range 600 {
		s := samples.New(i).System(9)
		classes, related := bisim.Classes(s), byWords(s)
		next := 0
		for a := range classes {
			for b := range classes {
				if (classes[a] == classes[b]) != related[a][b] {
					t.Fatalf("Q1: %q: %v, and states %d and %d", lts.Print(s), classes, a, b)
				}
			}
			if classes[a] > next {
				t.Fatalf("Q1: %q: the numbers of %v", lts.Print(s), classes)
			}
			if classes[a] == next {
				next++
			}
		}
		if next < s.States {
			merged++
		}
		quotient, same := bisim.Quotient(s)
		if !lts.Right(quotient) || quotient.States != next || !slices.Equal(classes, same) {
			t.Fatalf("Q2: %q: %v, %v", lts.Print(s), quotient, same)
		}
		for class, of := range bisim.Classes(quotient) {
			if class != of {
				t.Fatalf("Q2: %q: two classes of %v are alike", lts.Print(s), quotient)
			}
		}
	}
	if merged < 100 {
		t.Errorf("only %d systems have states that are alike", merged)
	}
}

func TestP7Alike(t *testing.T) {
	for i := range 600 {
		source := samples.New(i)
		s, f := source.System(9), source.Formula(25)
		quotient, classes := bisim.Quotient(s)
		in, _ := denote.Eval(lts.New(s), f)
		of, _ := denote.Eval(lts.New(quotient), f)
		for state, class := range classes {
			if in.Has(state) != of.Has(class) {
				t.Fatalf("P7: %q: %s in state %d and its class %d", lts.Print(s), syntax.Print(f), state, class)
			}
		}
	}
}

func TestR5(t *testing.T) {
	s := system(t, "states 2", "edge 0 a 1", "edge 1 b 1", "mark p 0 1")
	text := lts.Print(s)
	quotient, classes := bisim.Quotient(s)
	quotient.Actions[0], quotient.Edges[0].To, quotient.Props[0].Name, quotient.Props[0].States[0], classes[0] = "z", 9, "z", 9, 9
	if lts.Print(s) != text {
		t.Error("R5: a system shares memory with its quotient")
	}
}
