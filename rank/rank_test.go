package rank_test

import (
	"slices"
	"testing"

	"bailiff/api"
	"bailiff/norm"
	"bailiff/rank"
	"bailiff/samples"
	"bailiff/syntax"
)

func parse(t *testing.T, text string) []api.Node {
	t.Helper()
	f, err := syntax.Parse(text)
	if err != nil {
		t.Fatalf("%q: %v", text, err)
	}
	return f
}

func TestR1Free(t *testing.T) {
	for text, want := range map[string][]uint64{
		"nu X. mu Y. <a>X & p | <a>Y": {1 << 8, 1 << 8, 0, 1 << 8, 1 << 7, 1 << 7, 1<<7 | 1<<8, 1 << 8, 0},
		"nu X. mu Y. p | <a>Y":        {0, 1 << 3 << 1, 1 << 4, 1 << 4, 0, 0},
		"mu X. (nu Y. Y) | X":         {1 << 1, 0, 1 << 4, 1 << 4, 0},
		"p":                           {0}, "tt & ff": {0, 0, 0}, "mu X. p": {0, 0}, "mu X. X": {1 << 1, 0},
		"nu X. mu Y. nu Z. X | Y | Z": {1 << 7, 1 << 6, 1<<6 | 1<<7, 1 << 5, 1<<5 | 1<<6 | 1<<7, 1<<6 | 1<<7, 1 << 7, 0},
	} {
		if got := rank.Free(parse(t, text)); !slices.Equal(got, want) {
			t.Errorf("R1: %q: %v, want %v", text, got, want)
		}
	}
}

func TestR2Ranks(t *testing.T) {
	for text, want := range map[string][]int{
		"nu X. mu Y. <a>X & p | <a>Y": {0, 0, 0, 0, 0, 0, 0, 1, 2}, "nu X. mu Y. p | <a>Y": {0, 0, 0, 0, 1, 0}, "mu X. (nu Y. Y) | X": {0, 0, 0, 0, 1},
		"p": {0}, "mu X. X": {0, 1}, "nu X. X": {0, 0}, "mu X. p": {0, 1}, "mu X. mu Y. X | Y": {0, 0, 0, 1, 1}, "nu X. nu Y. X | Y": {0, 0, 0, 0, 0},
		"mu X. nu Y. X | Y": {0, 0, 0, 0, 1}, "mu X. nu Y. mu Z. X | Y | Z": {0, 0, 0, 0, 0, 1, 2, 3},
		"nu A. mu B. nu C. mu D. A | B | C | D": {0, 0, 0, 0, 0, 0, 0, 1, 2, 3, 4}, "mu A. nu B. mu C. nu D. A | B | C | D": {0, 0, 0, 0, 0, 0, 0, 0, 1, 2, 3},
		"nu A. mu B. nu C. mu D. A & D": {0, 0, 0, 1, 0, 1, 2}, "nu A. mu B. nu C. mu D. B & D": {0, 0, 0, 1, 0, 1, 0},
	} {
		if got := rank.Ranks(parse(t, text)); !slices.Equal(got, want) {
			t.Errorf("R2: %q: %v, want %v", text, got, want)
		}
	}
}

func TestNoPositiveForm(t *testing.T) {
	for i, f := range [][]api.Node{
		nil, {}, make([]api.Node, 1), make([]api.Node, 100), parse(t, "X"), parse(t, "~p"), parse(t, "mu X. ~~X"), parse(t, "mu X. nu X. X"),
		parse(t, "mu A. mu B. mu C. mu D. mu E. p"), {{Kind: api.FNProp, Name: "X"}},
	} {
		if free, ranks := rank.Free(f), rank.Ranks(f); len(free) != 0 || len(ranks) != 0 {
			t.Errorf("R1, R2: no positive form %d: %v, %v", i, free, ranks)
		}
	}
	if free := rank.Free([]api.Node{{Kind: api.FNProp, Name: "p"}}); !slices.Equal(free, []uint64{0}) {
		t.Errorf("R1: of an FNProp: %v", free)
	}
}

// under tells for each node whether it is node at or stands below it.
func under(f []api.Node, at int) []bool {
	in := make([]bool, len(f))
	in[at] = true
	for i := at; i >= 0; i-- {
		if !in[i] {
			continue
		}
		switch f[i].Kind {
		case api.FAnd, api.FOr:
			in[f[i].B] = true
			in[f[i].A] = true
		case api.FDia, api.FBox, api.FMu, api.FNu:
			in[f[i].A] = true
		}
	}
	return in
}

// freeByWords is Free as the document words it; names of fixpoints are all different in a fit formula.
func freeByWords(f []api.Node) []uint64 {
	free := make([]uint64, len(f))
	for i := range f {
		in := under(f, i)
		for v, n := range f {
			for b, fix := range f {
				if in[v] && n.Kind == api.FVar && (fix.Kind == api.FMu || fix.Kind == api.FNu) && fix.Name == n.Name && !in[b] {
					free[i] |= 1 << b
				}
			}
		}
	}
	return free
}

func TestFollows(t *testing.T) {
	for i := range 600 {
		f := samples.New(i).Positive(55)
		free, ranks := rank.Free(f), rank.Ranks(f)
		if !slices.Equal(free, freeByWords(f)) || free[len(f)-1] != 0 {
			t.Fatalf("R1: %v: %v", f, free)
		}
		for b, n := range f {
			want := 0
			switch n.Kind {
			case api.FMu, api.FNu:
				want = api.FNu - n.Kind
				in := under(f, b)
				for inner := range f[:b] {
					if in[inner] && free[inner]>>b&1 == 1 && (f[inner].Kind == api.FMu || f[inner].Kind == api.FNu) {
						for want < ranks[inner] {
							want += 2
						}
					}
				}
			}
			if ranks[b] != want || ranks[b] > api.MaxFix || free[b]>>b&1 != 0 {
				t.Fatalf("R2: %v: node %d ranks %d, not %d", f, b, ranks[b], want)
			}
		}
	}
}

func TestFollowsNegation(t *testing.T) {
	for i := range 300 {
		f := samples.New(i).Formula(50)
		ranks, others := rank.Ranks(norm.Positive(f)), rank.Ranks(norm.Negate(f))
		for b, n := range norm.Positive(f) {
			if (n.Kind == api.FMu || n.Kind == api.FNu) && ranks[b]%2 == others[b]%2 {
				t.Fatalf("R2: of %s and its negation: %v, %v", syntax.Print(f), ranks, others)
			}
		}
	}
}

func TestR1HighestBit(t *testing.T) {
	f := []api.Node{{Kind: api.FVar, Name: "X"}}
	for len(f) < api.MaxNodes-1 {
		f = append(f, api.Node{Kind: api.FDia, A: len(f) - 1, Name: "-"})
	}
	f = append(f, api.Node{Kind: api.FMu, A: len(f) - 1, Name: "X"})
	if free := rank.Free(f); free[0] != 1<<(api.MaxNodes-1) || free[api.MaxNodes-2] != free[0] || free[api.MaxNodes-1] != 0 {
		t.Errorf("R1: of MaxNodes nodes: %v", free)
	}
}
