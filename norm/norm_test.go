package norm_test

import (
	"slices"
	"testing"

	"bailiff/api"
	"bailiff/norm"
	"bailiff/samples"
	"bailiff/syntax"
)

func node(kind, a, b int, name string, at int) api.Node {
	return api.Node{Kind: kind, A: a, B: b, Name: name, At: at}
}

func leaf(kind int, name string, at int) api.Node { return node(kind, 0, 0, name, at) }

func parse(t *testing.T, text string) []api.Node {
	t.Helper()
	f, err := syntax.Parse(text)
	if err != nil {
		t.Fatalf("%q: %v", text, err)
	}
	return f
}

func TestN1Examples(t *testing.T) {
	for _, c := range []struct {
		text string
		want []api.Node
	}{
		{"~(p & <a>q)", []api.Node{leaf(api.FNProp, "p", 2), leaf(api.FNProp, "q", 9), node(api.FBox, 1, 0, "a", 6), node(api.FOr, 0, 2, "", 4)}},
		{"~mu X. p | <->X", []api.Node{leaf(api.FNProp, "p", 7), leaf(api.FVar, "X", 14), node(api.FBox, 1, 0, "-", 11), node(api.FAnd, 0, 2, "", 9), node(api.FNu, 3, 0, "X", 1)}},
		{"~~p", []api.Node{leaf(api.FProp, "p", 2)}}, {"~~~p", []api.Node{leaf(api.FNProp, "p", 3)}},
		{"~(tt | ff)", []api.Node{leaf(api.FFalse, "", 2), leaf(api.FTrue, "", 7), node(api.FAnd, 0, 1, "", 5)}},
		{"~[a]~nu Y. ~~Y", []api.Node{leaf(api.FVar, "Y", 13), node(api.FNu, 0, 0, "Y", 5), node(api.FDia, 1, 0, "a", 1)}},
		{"~(p | q) & ~r", []api.Node{leaf(api.FNProp, "p", 2), leaf(api.FNProp, "q", 6), node(api.FAnd, 0, 1, "", 4), leaf(api.FNProp, "r", 12), node(api.FAnd, 2, 3, "", 9)}},
		{"mu X. ~nu Y. ~X & <b>Y", []api.Node{leaf(api.FVar, "X", 14), leaf(api.FVar, "Y", 21), node(api.FBox, 1, 0, "b", 18), node(api.FOr, 0, 2, "", 16), node(api.FMu, 3, 0, "Y", 7), node(api.FMu, 4, 0, "X", 0)}},
	} {
		f := parse(t, c.text)
		if got := norm.Positive(f); !slices.Equal(got, c.want) {
			t.Errorf("N1: %q: %v, want %v", c.text, got, c.want)
		}
		if !norm.Is(c.want) || norm.Is(f) {
			t.Errorf("N1: Is of %q, or of its positive form", c.text)
		}
	}
}

func TestN2EachKind(t *testing.T) {
	for text, want := range map[string]string{
		"tt": "ff", "ff": "tt", "~p": "p", "~tt & ff": "tt | tt", "<a>ff": "[a]tt", "[-]tt": "<->ff", "mu X. X": "nu X. X", "nu X. <a>X": "mu X. [a]X",
		"~p | ~q": "p & q", "nu X. mu Y. X & ~p | [b]Y": "mu X. nu Y. (X | p) & <b>Y", "~(mu X. X) & tt": "(mu X. X) | ff",
	} {
		if got := syntax.Print(norm.Negate(parse(t, text))); got != want {
			t.Errorf("N2: %q: %q, want %q", text, got, want)
		}
	}
	wide := []api.Node{leaf(api.FNProp, "p", 4), leaf(api.FProp, "p", 5), node(api.FNot, 1, 0, "", 6), node(api.FAnd, 0, 2, "", 7)}
	want := []api.Node{leaf(api.FProp, "p", 4), leaf(api.FProp, "p", 5), node(api.FOr, 0, 1, "", 7)}
	if got := norm.Negate(wide); !slices.Equal(got, want) {
		t.Errorf("N2: of a wide formula: %v", got)
	}
	want = []api.Node{leaf(api.FNProp, "p", 4), leaf(api.FNProp, "p", 5), node(api.FAnd, 0, 1, "", 7)}
	if got := norm.Positive(wide); !slices.Equal(got, want) || norm.Is(wide) {
		t.Errorf("N1: of a wide formula: %v", got)
	}
}

func TestN1NotWide(t *testing.T) {
	free := func(text string) []api.Node { return parse(t, text) }
	for i, f := range [][]api.Node{
		nil, {}, make([]api.Node, 1), make([]api.Node, 1<<10), free("X"), free("~X"), free("mu X. ~X"), free("mu X. nu X. X"), free("mu A. mu B. mu C. mu D. mu E. p"),
		{leaf(api.FNProp, "P", 0)}, {leaf(api.FNProp, "", 0)}, {leaf(api.FNProp, "tt", 0)}, {node(api.FNProp, 1, 0, "p", 0)}, {leaf(13, "p", 0)},
		{leaf(api.FNProp, "p", 0), leaf(api.FNProp, "p", 0)}, {leaf(api.FVar, "X", 0), leaf(api.FNProp, "p", 0), node(api.FOr, 0, 1, "", 0)},
	} {
		if got := norm.Positive(f); len(got) != 0 {
			t.Errorf("N1: Positive of the wrong formula %d: %v", i, got)
		}
		if got := norm.Negate(f); len(got) != 0 {
			t.Errorf("N2: Negate of the wrong formula %d: %v", i, got)
		}
		if norm.Is(f) {
			t.Errorf("N1: Is of the wrong formula %d", i)
		}
	}
}

func TestN1Is(t *testing.T) {
	for _, f := range [][]api.Node{{leaf(api.FNProp, "p", 0)}, {leaf(api.FProp, "p", -7)}, parse(t, "mu X. p & <a>X"), parse(t, "tt")} {
		if !norm.Is(f) {
			t.Errorf("N1: Is of %v", f)
		}
	}
	if norm.Is(parse(t, "~~p")) || norm.Is(parse(t, "p & ~q")) {
		t.Error("N1: Is of a formula with FNot")
	}
}

func TestFollows(t *testing.T) {
	for i := range 600 {
		f := samples.New(i).Formula(50)
		positive, negated := norm.Positive(f), norm.Negate(f)
		if !norm.Is(positive) || !norm.Is(negated) || len(positive) != len(negated) {
			t.Fatalf("N1: Is of Positive and Negate of %s", syntax.Print(f))
		}
		if !slices.Equal(norm.Negate(negated), positive) || !slices.Equal(norm.Positive(positive), positive) || !slices.Equal(norm.Positive(negated), negated) {
			t.Fatalf("N2: twice, of %s", syntax.Print(f))
		}
		if len(f) < api.MaxNodes {
			above := append(slices.Clone(f), node(api.FNot, len(f)-1, 0, "", 0))
			if !slices.Equal(norm.Positive(above), negated) || !slices.Equal(norm.Negate(above), positive) {
				t.Fatalf("N2: FNot above %s", syntax.Print(f))
			}
		}
		form := samples.New(i).Positive(50)
		if !norm.Is(form) || !slices.Equal(norm.Positive(form), form) {
			t.Fatalf("N1: Positive of the positive form %v", form)
		}
	}
}

func TestR5Untouched(t *testing.T) {
	f := parse(t, "~(p & <a>q)")
	before := slices.Clone(f)
	norm.Is(f)
	norm.Negate(f)[0].Name = "z"
	norm.Positive(f)[0].Name = "z"
	if !slices.Equal(f, before) || norm.Positive(f)[0].Name != "p" {
		t.Error("R5: nodes were written into, or kept")
	}
}
