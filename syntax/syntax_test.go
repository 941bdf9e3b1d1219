package syntax_test

import (
	"errors"
	"math"
	"slices"
	"strings"
	"testing"

	"bailiff/api"
	"bailiff/samples"
	"bailiff/syntax"
)

func node(kind, a, b int, name string, at int) api.Node {
	return api.Node{Kind: kind, A: a, B: b, Name: name, At: at}
}

func leaf(kind int, name string, at int) api.Node { return node(kind, 0, 0, name, at) }

// withoutPlaces are the nodes with each At 0.
func withoutPlaces(f []api.Node) []api.Node {
	f = slices.Clone(f)
	for i := range f {
		f[i].At = 0
	}
	return f
}

func sameButAt(f, g []api.Node) bool { return slices.Equal(withoutPlaces(f), withoutPlaces(g)) }

// whole is a formula of all kinds: ~(tt & p) | <a>ff & [-](mu X. X) | nu Y. Y.
func whole() []api.Node {
	return []api.Node{
		leaf(api.FTrue, "", 5), leaf(api.FProp, "p", -1), node(api.FAnd, 0, 1, "", 0), node(api.FNot, 2, 0, "", 0),
		leaf(api.FFalse, "", 0), node(api.FDia, 4, 0, "a", math.MinInt), leaf(api.FVar, "X", 0), node(api.FMu, 6, 0, "X", 0), node(api.FBox, 7, 0, "-", 0),
		node(api.FAnd, 5, 8, "", 0), node(api.FOr, 3, 9, "", 0), leaf(api.FVar, "Y", 0), node(api.FNu, 11, 0, "Y", 0), node(api.FOr, 10, 12, "", 0),
	}
}

func TestF1Right(t *testing.T) {
	for _, f := range [][]api.Node{
		whole(), {leaf(api.FTrue, "", 0)}, {leaf(api.FVar, "X", 0)}, {leaf(api.FProp, "abcdefgh", 0)},
		{leaf(api.FTrue, "", 0), node(api.FDia, 0, 0, "b_Z", 0)}, chain(api.MaxNodes),
	} {
		if !syntax.Right(f) {
			t.Errorf("F1: %v", f)
		}
	}
}

// chain is a formula of n nodes, of which each stands above the one ahead of it.
func chain(n int) []api.Node {
	f := []api.Node{leaf(api.FTrue, "", 0)}
	for len(f) < n {
		f = append(f, node(api.FNot, len(f)-1, 0, "", 0))
	}
	return f
}

func TestF1Wrong(t *testing.T) {
	for what, change := range map[string]func(f []api.Node) []api.Node{
		"no nodes":             func(f []api.Node) []api.Node { return nil },
		"no nodes in a list":   func(f []api.Node) []api.Node { return f[:0] },
		"too many nodes":       func(f []api.Node) []api.Node { return chain(api.MaxNodes + 1) },
		"very many nodes":      func(f []api.Node) []api.Node { return make([]api.Node, 1<<16) },
		"no root":              func(f []api.Node) []api.Node { return f[:13] },
		"a node too many":      func(f []api.Node) []api.Node { return append(f, leaf(api.FTrue, "", 0)) },
		"an operand too few":   func(f []api.Node) []api.Node { return f[2:] },
		"a lone operator":      func(f []api.Node) []api.Node { return []api.Node{node(api.FNot, 0, 0, "", 0)} },
		"one below itself":     func(f []api.Node) []api.Node { f[3].A = 3; return f },
		"one far below":        func(f []api.Node) []api.Node { f[3].A = -1; return f },
		"one far above":        func(f []api.Node) []api.Node { f[3].A = math.MaxInt; return f },
		"operands exchanged":   func(f []api.Node) []api.Node { f[9].A, f[9].B = 8, 5; return f },
		"an operand twice":     func(f []api.Node) []api.Node { f[9].A, f[9].B = 8, 8; return f },
		"the wrong operand":    func(f []api.Node) []api.Node { f[8].A = 6; return f },
		"the wrong A":          func(f []api.Node) []api.Node { f[13].A = 9; return f },
		"the wrong B":          func(f []api.Node) []api.Node { f[13].B = 11; return f },
		"A where none is":      func(f []api.Node) []api.Node { f[1].A = 1; return f },
		"A of tt":              func(f []api.Node) []api.Node { f[0].A = 1; return f },
		"A of a variable":      func(f []api.Node) []api.Node { f[6].A = -1; return f },
		"B where none is":      func(f []api.Node) []api.Node { f[1].B = 1; return f },
		"B of a negation":      func(f []api.Node) []api.Node { f[3].B = 2; return f },
		"B of a fixpoint":      func(f []api.Node) []api.Node { f[7].B = 6; return f },
		"B of a box":           func(f []api.Node) []api.Node { f[8].B = 1; return f },
		"kind 0":               func(f []api.Node) []api.Node { f[0].Kind = 0; return f },
		"kind -1":              func(f []api.Node) []api.Node { f[0].Kind = -1; return f },
		"kind 13":              func(f []api.Node) []api.Node { f[0].Kind = 13; return f },
		"a negated one":        func(f []api.Node) []api.Node { f[1].Kind = api.FNProp; return f },
		"a proposition mu":     func(f []api.Node) []api.Node { f[1].Name = "mu"; return f },
		"a proposition P":      func(f []api.Node) []api.Node { f[1].Name = "P"; return f },
		"a proposition -":      func(f []api.Node) []api.Node { f[1].Name = "-"; return f },
		"no proposition":       func(f []api.Node) []api.Node { f[1].Name = ""; return f },
		"a long proposition":   func(f []api.Node) []api.Node { f[1].Name = "p23456789"; return f },
		"a small variable":     func(f []api.Node) []api.Node { f[6].Name = "x"; return f },
		"no variable":          func(f []api.Node) []api.Node { f[11].Name = ""; return f },
		"a fixpoint of x":      func(f []api.Node) []api.Node { f[7].Name = "x"; return f },
		"a fixpoint of none":   func(f []api.Node) []api.Node { f[12].Name = ""; return f },
		"an action A":          func(f []api.Node) []api.Node { f[5].Name = "A"; return f },
		"no action":            func(f []api.Node) []api.Node { f[8].Name = ""; return f },
		"an action tt":         func(f []api.Node) []api.Node { f[8].Name = "tt"; return f },
		"a name of tt":         func(f []api.Node) []api.Node { f[0].Name = "tt"; return f },
		"a name of ff":         func(f []api.Node) []api.Node { f[4].Name = "p"; return f },
		"a name of a negation": func(f []api.Node) []api.Node { f[3].Name = "~"; return f },
		"a name of both":       func(f []api.Node) []api.Node { f[2].Name = "a"; return f },
		"a name of one":        func(f []api.Node) []api.Node { f[13].Name = "a"; return f },
	} {
		f := change(whole())
		if syntax.Right(f) || syntax.Print(f) != "" {
			t.Errorf("F1: %s", what)
		}
	}
}

func TestF2Parse(t *testing.T) {
	for _, c := range []struct {
		text string
		want []api.Node
	}{
		{"p & q | ~r", []api.Node{leaf(api.FProp, "p", 0), leaf(api.FProp, "q", 4), node(api.FAnd, 0, 1, "", 2), leaf(api.FProp, "r", 9), node(api.FNot, 3, 0, "", 8), node(api.FOr, 2, 4, "", 6)}},
		{"tt", []api.Node{leaf(api.FTrue, "", 0)}}, {" ff\n", []api.Node{leaf(api.FFalse, "", 1)}}, {"X", []api.Node{leaf(api.FVar, "X", 0)}},
		{"<->\np", []api.Node{leaf(api.FProp, "p", 4), node(api.FDia, 0, 0, "-", 0)}}, {"((p))", []api.Node{leaf(api.FProp, "p", 2)}},
		{"[b]~p", []api.Node{leaf(api.FProp, "p", 4), node(api.FNot, 0, 0, "", 3), node(api.FBox, 1, 0, "b", 0)}},
		{"mu X.X|p", []api.Node{leaf(api.FVar, "X", 5), leaf(api.FProp, "p", 7), node(api.FOr, 0, 1, "", 6), node(api.FMu, 2, 0, "X", 0)}},
		{"p & nu\nX. X & p # r", []api.Node{leaf(api.FProp, "p", 0), leaf(api.FVar, "X", 10), leaf(api.FProp, "p", 14), node(api.FAnd, 1, 2, "", 12), node(api.FNu, 3, 0, "X", 4), node(api.FAnd, 0, 4, "", 2)}},
		{"p|q|r", []api.Node{leaf(api.FProp, "p", 0), leaf(api.FProp, "q", 2), node(api.FOr, 0, 1, "", 1), leaf(api.FProp, "r", 4), node(api.FOr, 2, 3, "", 3)}},
		{"p&(q&r)", []api.Node{leaf(api.FProp, "p", 0), leaf(api.FProp, "q", 3), leaf(api.FProp, "r", 5), node(api.FAnd, 1, 2, "", 4), node(api.FAnd, 0, 3, "", 1)}},
		{"~mu X.p|q", []api.Node{leaf(api.FProp, "p", 6), leaf(api.FProp, "q", 8), node(api.FOr, 0, 1, "", 7), node(api.FMu, 2, 0, "X", 1), node(api.FNot, 3, 0, "", 0)}},
		{"<a>p&q", []api.Node{leaf(api.FProp, "p", 3), node(api.FDia, 0, 0, "a", 0), leaf(api.FProp, "q", 5), node(api.FAnd, 1, 2, "", 4)}},
	} {
		got, err := syntax.Parse(c.text)
		if err != nil || !slices.Equal(got, c.want) || !syntax.Right(got) {
			t.Errorf("F2: %q: %v, %v", c.text, got, err)
		}
	}
}

func checkFault(t *testing.T, text string, want api.Fault) {
	t.Helper()
	got, err := syntax.Parse(text)
	var fault *api.Fault
	if len(got) != 0 || !errors.As(err, &fault) || *fault != want {
		t.Errorf("F2: %.40q: %v, %v, want %v", text, got, fault, want)
	}
}

func TestF2Faults(t *testing.T) {
	for _, c := range []struct {
		text string
		at   int
		err  api.Errno
	}{
		{"", 0, api.ErrShort}, {" \n#", 3, api.ErrShort}, {"p &", 3, api.ErrShort}, {"p |\n", 4, api.ErrShort}, {"~", 1, api.ErrShort}, {"(", 1, api.ErrShort}, {"(p", 2, api.ErrShort},
		{"<", 1, api.ErrShort}, {"<a", 2, api.ErrShort}, {"<a>", 3, api.ErrShort}, {"[-", 2, api.ErrShort}, {"[a] ", 4, api.ErrShort},
		{"mu", 2, api.ErrShort}, {"nu X", 4, api.ErrShort}, {"mu X.", 5, api.ErrShort},
		{"p q", 2, api.ErrWord}, {"p)", 1, api.ErrWord}, {"()", 1, api.ErrWord}, {"(p q", 3, api.ErrWord}, {"p ~q", 2, api.ErrWord}, {"tt ff", 3, api.ErrWord}, {"p mu X.X", 2, api.ErrWord},
		{"mu x.p", 3, api.ErrWord}, {"mu mu", 3, api.ErrWord}, {"mu X p", 5, api.ErrWord}, {"nu X:p", 4, api.ErrWord}, {"nu 1.p", 3, api.ErrWord},
		{"<tt>p", 1, api.ErrWord}, {"[nu]p", 1, api.ErrWord}, {"<A>p", 1, api.ErrWord}, {"<>p", 1, api.ErrWord}, {"<a]p", 2, api.ErrWord}, {"[a>p", 2, api.ErrWord}, {"<a b>p", 3, api.ErrWord}, {"<~>p", 1, api.ErrWord},
		{"& p", 0, api.ErrWord}, {"p & | q", 4, api.ErrWord}, {"-", 0, api.ErrWord}, {"0", 0, api.ErrWord}, {"p.", 1, api.ErrWord}, {">", 0, api.ErrWord},
		{"p & _", 4, api.ErrByte}, {") _", 2, api.ErrByte}, {"p 007", 2, api.ErrNumber}, {"Xabcdefgh", 0, api.ErrName}, {strings.Repeat("~", api.MaxText+1), api.MaxText, api.ErrText},
	} {
		checkFault(t, c.text, api.Fault{At: c.at, Err: c.err})
	}
}

func TestF2Many(t *testing.T) {
	most := strings.Repeat("~", api.MaxNodes-1)
	if f, err := syntax.Parse(most + "p"); err != nil || len(f) != api.MaxNodes {
		t.Errorf("F2: MaxNodes nodes: %v", err)
	}
	for _, rest := range []string{"~p", "~tt", "~X", "~~", "~<", "~[-]p", "~mu X.X", "~nu", "p&q", "p|", "(p|q)"} {
		at := api.MaxNodes
		if rest[0] == '(' {
			at++
		}
		checkFault(t, most+rest, api.Fault{At: at, Err: api.ErrMany})
	}
	checkFault(t, most+"~", api.Fault{At: 60, Err: api.ErrShort})
	checkFault(t, most+"~)", api.Fault{At: 60, Err: api.ErrWord})
	checkFault(t, most+"p q", api.Fault{At: 61, Err: api.ErrWord})
	for _, text := range []string{strings.Repeat("<a>", 59) + "p", strings.Repeat("mu X.", 59) + "X", strings.Repeat("(", 100) + "p" + strings.Repeat(")", 100), "p" + strings.Repeat("&q", 28) + "&~q"} {
		if f, err := syntax.Parse(text); err != nil || len(f) > api.MaxNodes {
			t.Errorf("F2: %q: %v", text, err)
		}
	}
}

func TestF2Deep(t *testing.T) {
	const depth = 1 << 16
	f, err := syntax.Parse(strings.Repeat("(", depth) + "p" + strings.Repeat(")", depth))
	if err != nil || !slices.Equal(f, []api.Node{leaf(api.FProp, "p", depth)}) {
		t.Errorf("F2: %d brackets: %v, %v", depth, f, err)
	}
	checkFault(t, strings.Repeat("(", depth), api.Fault{At: depth, Err: api.ErrShort})
}

func TestF3Print(t *testing.T) {
	for _, c := range [][2]string{
		{"p & q | ~r", "p & q | ~r"}, {"p|(q|r)", "p | (q | r)"}, {"(p|q)|r", "p | q | r"}, {"p&(q&r)", "p & (q & r)"}, {"(p&q)&r", "p & q & r"},
		{"<a>mu X.X|p", "<a>(mu X. X | p)"}, {"(tt|ff)&p", "(tt | ff) & p"}, {"p&(q|r)", "p & (q | r)"}, {"p|(q&r)", "p | q & r"}, {"(p&q)|r", "p & q | r"},
		{"~(p&q)", "~(p & q)"}, {"~(p|q)", "~(p | q)"}, {"[a](p&q)", "[a](p & q)"}, {"<->(p|q)", "<->(p | q)"}, {"~[a]<b>~p", "~[a]<b>~p"},
		{"mu X.(p|q)", "mu X. p | q"}, {"mu X.(p&q)", "mu X. p & q"}, {"mu X.nu Y.X", "mu X. nu Y. X"}, {"nu X.~p", "nu X. ~p"},
		{"(mu X.X)|p", "(mu X. X) | p"}, {"p|mu X.X", "p | (mu X. X)"}, {"p&nu X.X", "p & (nu X. X)"}, {"(nu X.X)&p", "(nu X. X) & p"}, {"~mu X.X", "~(mu X. X)"}, {"[a]nu X.X", "[a](nu X. X)"},
	} {
		f, err := syntax.Parse(c[0])
		if err != nil || syntax.Print(f) != c[1] {
			t.Errorf("F3: %q: %q, %v", c[0], syntax.Print(f), err)
		}
	}
	if got := syntax.Print(whole()); got != "~(tt & p) | <a>ff & [-](mu X. X) | (nu Y. Y)" {
		t.Errorf("F3: %q", got)
	}
}

func TestFollowsRoundTrip(t *testing.T) {
	for i := range 1000 {
		f := samples.New(i).Formula(40)
		if !syntax.Right(f) {
			t.Fatalf("a sample that is not right: %v", f)
		}
		text := syntax.Print(f)
		got, err := syntax.Parse(text)
		if err != nil || !sameButAt(got, f) || syntax.Print(got) != text {
			t.Fatalf("P8: %q: %v", text, err)
		}
		for _, n := range got {
			if strings.IndexByte("tfpqrX~&|<[mn", text[n.At]) < 0 {
				t.Fatalf("F2: in %q a node stands at %d", text, n.At)
			}
		}
	}
}

func TestFollowsShortTexts(t *testing.T) {
	pieces := []string{"p", "X", "~", "<a>", "&", "|", "(", ")", "mu X."}
	var try func(text string, rest int)
	try = func(text string, rest int) {
		if f, err := syntax.Parse(text); err == nil {
			again, err := syntax.Parse(syntax.Print(f))
			if err != nil || !syntax.Right(f) || !sameButAt(again, f) {
				t.Errorf("P8: %q is printed %q", text, syntax.Print(f))
			}
		}
		for _, piece := range pieces {
			if rest > 0 {
				try(text+piece, rest-1)
			}
		}
	}
	try("", 5)
}

func TestR5Untouched(t *testing.T) {
	f := whole()
	syntax.Right(f)
	syntax.Print(f)
	if !slices.Equal(f, whole()) {
		t.Error("R5: nodes were written into")
	}
}
