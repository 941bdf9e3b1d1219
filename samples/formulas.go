package samples

import (
	"strconv"

	"bailiff/api"
)

// bound is a variable that may be named: only under an even number of negations from its fixpoint on.
type bound struct {
	name    string
	negated bool
}

// grower makes a formula's nodes, those below ahead of those above.
type grower struct {
	*Source
	list    []api.Node
	fixes   int
	negates bool
}

// Formula is a fit formula of at most so many nodes.
func (s *Source) Formula(size int) []api.Node {
	g := grower{Source: s, negates: true}
	g.grow(size-s.Below(size), nil, false, 0)
	return g.list
}

// Positive is a positive form of at most so many nodes.
func (s *Source) Positive(size int) []api.Node {
	g := grower{Source: s}
	g.grow(size-s.Below(size), nil, false, 0)
	for i := range g.list {
		if g.list[i].Kind == api.FProp && s.Chance(1, 3) {
			g.list[i].Kind = api.FNProp
		}
	}
	return g.list
}

// grow makes a node and what stands below it, of at most so many nodes.
func (g *grower) grow(size int, scope []bound, negated bool, depth int) int {
	if size < 2 {
		return g.leaf(scope, negated)
	}
	kind := g.Below(10)
	switch {
	case kind == 0 && g.negates:
		return g.add(api.Node{Kind: api.FNot, A: g.grow(size-1, scope, !negated, depth)})
	case kind < 4 && depth < api.MaxFix:
		name := "X" + strconv.Itoa(g.fixes)
		g.fixes++
		inner := append(append([]bound(nil), scope...), bound{name, negated})
		return g.add(api.Node{Kind: api.FMu + g.Below(2), A: g.grow(size-1, inner, negated, depth+1), Name: name})
	case kind < 6 || size < 3:
		inner := g.grow(size-1, scope, negated, depth)
		return g.add(api.Node{Kind: api.FDia + g.Below(2), A: inner, Name: g.action()})
	}
	left := 1 + g.Below(size-2)
	first := g.grow(left, scope, negated, depth)
	second := g.grow(size-1-left, scope, negated, depth)
	return g.add(api.Node{Kind: api.FAnd + g.Below(2), A: first, B: second})
}

func (g *grower) leaf(scope []bound, negated bool) int {
	if len(scope) > 0 && g.Chance(2, 3) {
		if b := scope[g.Below(len(scope))]; b.negated == negated {
			return g.add(api.Node{Kind: api.FVar, Name: b.name})
		}
	}
	if g.Chance(1, 5) {
		return g.add(api.Node{Kind: api.FTrue + g.Below(2)})
	}
	return g.add(api.Node{Kind: api.FProp, Name: propName(g.Below(3))})
}

func (g *grower) action() string {
	if g.Chance(1, 2) {
		return api.Any
	}
	return actionName(g.Below(3))
}

func (g *grower) add(n api.Node) int {
	n.At = len(g.list)
	g.list = append(g.list, n)
	return len(g.list) - 1
}
