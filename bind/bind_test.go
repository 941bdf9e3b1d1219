package bind_test

import (
	"slices"
	"strings"
	"testing"

	"bailiff/api"
	"bailiff/bind"
	"bailiff/samples"
	"bailiff/syntax"
)

func parse(t *testing.T, text string) []api.Node {
	t.Helper()
	f, err := syntax.Parse(text)
	if err != nil {
		t.Fatalf("%q: %v", text, err)
	}
	return f
}

func TestB1Check(t *testing.T) {
	for _, c := range []struct {
		text string
		at   int
		err  api.Errno
	}{
		{"mu X. X | p", 0, api.OK}, {"p", 0, api.OK}, {"~p", 0, api.OK}, {"mu X. p", 0, api.OK}, {"nu X. mu Y. X & Y", 0, api.OK},
		{"X", 0, api.ErrFree}, {"~X", 0, api.ErrFree}, {"p | X", 1, api.ErrFree}, {"(mu X. X) | X", 2, api.ErrFree}, {"X | mu X. X", 0, api.ErrFree},
		{"mu X. Y", 0, api.ErrFree}, {"mu X. p | nu Y. X & Z", 2, api.ErrFree}, {"mu A. mu B. mu C. mu D. mu E. Z", 0, api.ErrFree},
		{"mu X. ~X", 0, api.ErrNegative}, {"mu X. ~~X", 0, api.OK}, {"mu X. ~~~X", 0, api.ErrNegative}, {"~mu X. X", 0, api.OK},
		{"mu X. ~(p & <a>~[b]X)", 0, api.OK}, {"mu X. X | ~X", 1, api.ErrNegative}, {"mu X. p & <a>~[b]X", 1, api.ErrNegative},
		{"mu X. ~nu Y. ~X & Y", 0, api.OK}, {"mu X. ~nu Y. X & ~Y", 0, api.ErrNegative}, {"nu X. ~nu Y. ~X & ~Y", 2, api.ErrNegative}, {"~mu X. ~nu Y. Y", 0, api.OK},
		{"(mu X. X) | (nu X. X)", 3, api.ErrTwice}, {"mu X. nu X. X", 2, api.ErrTwice}, {"(mu X. p) & (nu Y. p) & mu X. X", 6, api.ErrTwice},
		{"mu X. nu Y. mu X. X", 3, api.ErrTwice}, {"mu X. ~nu X. X", 3, api.ErrTwice}, {"mu X. ~nu X. ~X", 0, api.ErrNegative},
		{"mu A. mu B. mu C. mu D. A", 0, api.OK}, {"mu A. mu B. mu C. mu D. mu E. A", 5, api.ErrNest}, {"mu A. mu B. nu C. mu D. mu E. nu F. A", 5, api.ErrNest},
		{"p & mu A. <a>mu B. p | nu C. ~mu D. p & mu E. E", 12, api.ErrNest}, {"(mu A. mu B. mu C. mu D. p) & mu E. mu F. p", 0, api.OK},
		{"mu A. (mu B. mu C. mu D. p) & (mu E. mu F. mu G. p)", 0, api.OK}, {"mu A. (mu B. mu C. mu D. p) & (mu E. mu F. mu G. mu H. p)", 10, api.ErrNest},
		{"mu A. mu B. mu C. mu D. mu A. p", 5, api.ErrTwice},
	} {
		if at, wrong := bind.Check(parse(t, c.text)); at != c.at || wrong != c.err {
			t.Errorf("B1: %q: %d, %d, want %d, %d", c.text, at, wrong, c.at, c.err)
		}
	}
}

func TestB2Binders(t *testing.T) {
	for text, want := range map[string][]int{
		"mu X. X | p": {3, -1, -1, -1}, "X": {-1}, "p": {-1}, "mu X. ~X": {2, -1, -1}, "mu X. nu X. X": {1, -1, -1},
		"(mu X. X) | X": {1, -1, -1, -1}, "(mu X. X) | (nu X. X)": {1, -1, 3, -1, -1}, "nu X. mu Y. X & Y | Z": {6, 5, -1, -1, -1, -1, -1},
		"mu X. X | nu X. X": {4, 2, -1, -1, -1}, "mu A. mu B. mu C. mu D. mu E. A": {5, -1, -1, -1, -1, -1},
	} {
		if got := bind.Binders(parse(t, text)); !slices.Equal(got, want) {
			t.Errorf("B2: %q: %v, want %v", text, got, want)
		}
	}
}

func TestNoFormula(t *testing.T) {
	for i, f := range [][]api.Node{
		nil, {}, make([]api.Node, 1), make([]api.Node, 1000), {{Kind: api.FNProp, Name: "p"}}, {{Kind: api.FNot}}, {{Kind: api.FVar, Name: "x"}},
		{{Kind: api.FVar, Name: "X"}, {Kind: api.FMu, A: 1, Name: "X"}}, {{Kind: api.FTrue}, {Kind: api.FTrue}},
	} {
		if at, wrong := bind.Check(f); at != 0 || wrong != api.ErrArg {
			t.Errorf("B1: no formula %d: %d, %d", i, at, wrong)
		}
		if got := bind.Binders(f); len(got) != 0 {
			t.Errorf("B2: no formula %d: %v", i, got)
		}
	}
}

// stands tells whether node i stands below node j, going down from j.
func stands(f []api.Node, i, j int) bool {
	n := f[j]
	switch n.Kind {
	case api.FNot, api.FDia, api.FBox, api.FMu, api.FNu:
		return n.A == i || stands(f, i, n.A)
	case api.FAnd, api.FOr:
		return n.A == i || n.B == i || stands(f, i, n.A) || stands(f, i, n.B)
	}
	return false
}

func TestFollowsFit(t *testing.T) {
	for i := range 500 {
		f := samples.New(i).Formula(50)
		if at, wrong := bind.Check(f); at != 0 || wrong != api.OK {
			t.Fatalf("B1: %s: %d, %d", syntax.Print(f), at, wrong)
		}
		for v, b := range bind.Binders(f) {
			if f[v].Kind != api.FVar {
				if b != -1 {
					t.Fatalf("B2: %s: node %d is bound", syntax.Print(f), v)
				}
				continue
			}
			if b < 0 || f[b].Name != f[v].Name || (f[b].Kind != api.FMu && f[b].Kind != api.FNu) || !stands(f, v, b) {
				t.Fatalf("B2: %s: node %d is bound by %d", syntax.Print(f), v, b)
			}
		}
	}
}

// disorderly is a formula that is fit or not.
func disorderly(seed int) []api.Node {
	source := samples.New(seed)
	f := source.Formula(40)
	for i, n := range f {
		if strings.HasPrefix(n.Name, "X") && source.Chance(1, 6) {
			f[i].Name = "X" + string(rune('0'+source.Below(3)))
		}
		if n.Kind == api.FDia && source.Chance(1, 3) {
			f[i].Kind, f[i].Name = api.FNot, ""
		}
	}
	return f
}

func TestFollowsNamesDoNotMatter(t *testing.T) {
	for i := range 500 {
		f := disorderly(i)
		binders := bind.Binders(f)
		at, wrong := bind.Check(f)
		for fix, n := range f {
			if n.Kind != api.FMu && n.Kind != api.FNu || wrong == api.ErrTwice {
				continue
			}
			g := slices.Clone(f)
			g[fix].Name = "New"
			for v, b := range binders {
				if b == fix {
					g[v].Name = "New"
				}
			}
			if again, same := bind.Check(g); again != at || same != wrong || !slices.Equal(bind.Binders(g), binders) {
				t.Fatalf("names matter: %s and %s: %d, %d and %d, %d", syntax.Print(f), syntax.Print(g), at, wrong, again, same)
			}
		}
	}
}

func TestR5Untouched(t *testing.T) {
	f := disorderly(3)
	before := slices.Clone(f)
	bind.Check(f)
	got := bind.Binders(f)
	got[0] = 99
	if !slices.Equal(f, before) || bind.Binders(f)[0] == 99 {
		t.Error("R5: nodes were written into, or kept")
	}
}
