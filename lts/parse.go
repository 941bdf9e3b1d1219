package lts

import (
	"slices"

	"bailiff/api"
	"bailiff/names"
	"bailiff/scan"
	"bailiff/sets"
	"bailiff/tokens"
)

// step is an edge whose action has no number yet: that is known only when all actions are.
type step struct {
	from   int
	action string
	to     int
}

// parser reads a system; the maps' values are of no account.
type parser struct {
	*tokens.Reader
	states  int
	actions map[string]int
	steps   map[step]int
	props   []api.Prop
}

// Parse reads a system; or tells a *api.Fault.
func Parse(text string) (api.System, error) {
	list, err := scan.All(text)
	if err != nil {
		return api.System{}, err
	}
	p := parser{Reader: tokens.New(list), actions: map[string]int{}, steps: map[step]int{}}
	p.head()
	for p.SkipLines(); p.Peek().Kind != api.TokEnd; p.SkipLines() {
		p.line()
	}
	if fault := p.Fault(); fault != nil {
		return api.System{}, fault
	}
	return p.system(), nil
}

func (p *parser) head() {
	p.SkipLines()
	p.Word(api.TokName, "states")
	states, token := p.Number()
	if states < 1 || states > api.MaxStates {
		p.Fail(token, api.ErrRange)
	}
	p.states = states
	p.EndLine()
}

func (p *parser) line() {
	word := p.Take(api.TokName)
	switch word.Text {
	case "edge":
		if len(p.steps) == api.MaxEdges {
			p.Fail(word, api.ErrMany)
		}
		p.edge()
	case "mark":
		p.mark()
	default:
		p.Misfit(word)
	}
	p.EndLine()
}

func (p *parser) edge() {
	from, _ := p.state()
	action := p.action()
	to, token := p.state()
	s := step{from, action, to}
	if _, there := p.steps[s]; there {
		p.Fail(token, api.ErrTwice)
	}
	p.steps[s]++
}

func (p *parser) action() string {
	token := p.name()
	if _, there := p.actions[token.Text]; !there && len(p.actions) == api.MaxActions {
		p.Fail(token, api.ErrMany)
	}
	p.actions[token.Text]++
	return token.Text
}

func (p *parser) mark() {
	token := p.name()
	if len(p.props) == api.MaxProps {
		p.Fail(token, api.ErrMany)
	}
	if slices.ContainsFunc(p.props, func(other api.Prop) bool { return other.Name == token.Text }) {
		p.Fail(token, api.ErrTwice)
	}
	var in sets.Set
	for !tokens.Ends(p.Peek()) {
		state, at := p.state()
		if in.Has(state) {
			p.Fail(at, api.ErrTwice)
		}
		in = in.With(state)
	}
	p.props = append(p.props, api.Prop{Name: token.Text, States: in.List()})
}

func (p *parser) name() api.Token {
	token := p.Take(api.TokName)
	if names.Reserved(token.Text) {
		p.Misfit(token)
	}
	return token
}

func (p *parser) state() (int, api.Token) {
	state, token := p.Number()
	if !isBelow(state, p.states) {
		p.Fail(token, api.ErrRange)
	}
	return state, token
}

// system puts what was read in order.
func (p *parser) system() api.System {
	s := api.System{States: p.states, Props: p.props}
	for action := range p.actions {
		s.Actions = append(s.Actions, action)
	}
	slices.Sort(s.Actions)
	for e := range p.steps {
		number, _ := slices.BinarySearch(s.Actions, e.action)
		s.Edges = append(s.Edges, api.Edge{From: e.from, Action: number, To: e.to})
	}
	slices.SortFunc(s.Edges, compareEdges)
	slices.SortFunc(s.Props, compareProps)
	return s
}
