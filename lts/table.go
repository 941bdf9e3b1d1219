package lts

import (
	"bailiff/api"
	"bailiff/sets"
)

// start is where edges by an action begin; the action may be api.Any.
type start struct {
	state  int
	action string
}

// Table answers questions of a system.
type Table struct {
	states int
	props  map[string]sets.Set
	ends   map[start]sets.Set
}

// New is the table of a right system; nil of others.
func New(s api.System) *Table {
	if !Right(s) {
		return nil
	}
	t := &Table{states: s.States, props: map[string]sets.Set{}, ends: map[start]sets.Set{}}
	for _, p := range s.Props {
		t.props[p.Name] = sets.Of(p.States...)
	}
	for _, e := range s.Edges {
		for _, key := range []start{{e.From, s.Actions[e.Action]}, {e.From, api.Any}} {
			t.ends[key] = t.ends[key].With(e.To)
		}
	}
	return t
}

// States is how many states the system has.
func (t *Table) States() int { return t.states }

// Holds are the states in which a proposition holds.
func (t *Table) Holds(prop string) sets.Set { return t.props[prop] }

// Next are the states to which edges by an action lead from a state.
func (t *Table) Next(state int, action string) sets.Set { return t.ends[start{state, action}] }

// Back are the states from which some edge by an action leads into a set.
func (t *Table) Back(to sets.Set, action string) sets.Set {
	var from sets.Set
	for state := range t.states {
		if t.Next(state, action).And(to) != (sets.Set{}) {
			from = from.With(state)
		}
	}
	return from
}
