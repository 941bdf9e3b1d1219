package samples

import (
	"bailiff/api"
)

// System is a right system of at most so many states.
func (s *Source) System(states int) api.System {
	y := api.System{States: 1 + s.Below(states)}
	kinds := s.Below(4)
	density := 1 + s.Below(3)
	for from := range y.States {
		for a := range kinds {
			for to := range y.States {
				if len(y.Edges) < api.MaxEdges && s.Chance(density, 2*y.States) {
					y.Edges = append(y.Edges, api.Edge{From: from, Action: a, To: to})
				}
			}
		}
	}
	y.Actions = s.dropUnused(y.Edges, kinds)
	for p := range s.Below(3) {
		y.Props = append(y.Props, api.Prop{Name: propName(p), States: s.some(y.States)})
	}
	return y
}

// dropUnused numbers the edges' actions anew, so that each one has an edge, and names them.
func (s *Source) dropUnused(edges []api.Edge, kinds int) []string {
	number := make([]int, kinds)
	var names []string
	for a := range kinds {
		used := false
		for _, e := range edges {
			used = used || e.Action == a
		}
		if used {
			number[a] = len(names)
			names = append(names, actionName(a))
		}
	}
	for i := range edges {
		edges[i].Action = number[edges[i].Action]
	}
	return names
}

// some are a part of the numbers below n, rising.
func (s *Source) some(n int) []int {
	var l []int
	for i := range n {
		if s.Chance(1, 2) {
			l = append(l, i)
		}
	}
	return l
}

func actionName(a int) string { return string(rune('a' + a)) }
func propName(p int) string   { return string(rune('p' + p)) }
