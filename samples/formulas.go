package samples

import (
	"strconv"

	"bailiff/api"
)

// bound is a variable that may be named: only under an even number of negations from its fixpoint on.
type bound struct {
	name    string
	negated bool
}

// grower makes a formula's nodes, those below ahead of those above.
type grower struct {
	*Source
	list    []api.Node
	fixes   int
	negates bool
}

// Formula is a fit formula of about so many nodes.
func (s *Source) Formula(size int) []api.Node {
	g := grower{Source: s, negates: true}
	g.grow(1+s.Below(size), nil, false, 0)
	return g.list
}

// Positive is a positive form of about so many nodes.
func (s *Source) Positive(size int) []api.Node {
	g := grower{Source: s}
	g.grow(1+s.Below(size), nil, false, 0)
	for i := range g.list {
		if g.list[i].Kind == api.FProp && s.Chance(1, 3) {
			g.list[i].Kind = api.FNProp
		}
	}
	return g.list
}

func (g *grower) grow(size int, scope []bound, negated bool, depth int) int {
	if size < 2 || len(g.list)+2*size >= api.MaxNodes {
		return g.leaf(scope, negated)
	}
	switch g.Below(8) {
	case 0, 1:
		first := g.grow(size/2, scope, negated, depth)
		second := g.grow(size-1-size/2, scope, negated, depth)
		return g.add(api.Node{Kind: api.FAnd + g.Below(2), A: first, B: second})
	case 2, 3:
		inner := g.grow(size-1, scope, negated, depth)
		return g.add(api.Node{Kind: api.FDia + g.Below(2), A: inner, Name: g.action()})
	case 4:
		if g.negates {
			return g.add(api.Node{Kind: api.FNot, A: g.grow(size-1, scope, !negated, depth)})
		}
	}
	if depth == api.MaxFix {
		return g.leaf(scope, negated)
	}
	name := "X" + strconv.Itoa(g.fixes)
	g.fixes++
	inner := append(append([]bound(nil), scope...), bound{name, negated})
	return g.add(api.Node{Kind: api.FMu + g.Below(2), A: g.grow(size-1, inner, negated, depth+1), Name: name})
}

func (g *grower) leaf(scope []bound, negated bool) int {
	if len(scope) > 0 && g.Chance(3, 4) {
		if b := scope[g.Below(len(scope))]; b.negated == negated {
			return g.add(api.Node{Kind: api.FVar, Name: b.name})
		}
	}
	if g.Chance(1, 4) {
		return g.add(api.Node{Kind: api.FTrue + g.Below(2)})
	}
	return g.add(api.Node{Kind: api.FProp, Name: propName(g.Below(3))})
}

func (g *grower) action() string {
	if g.Chance(1, 3) {
		return api.Any
	}
	return actionName(g.Below(3))
}

func (g *grower) add(n api.Node) int {
	n.At = len(g.list)
	g.list = append(g.list, n)
	return len(g.list) - 1
}
