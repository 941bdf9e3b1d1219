package syntax

import (
	"bailiff/api"
	"bailiff/names"
	"bailiff/scan"
	"bailiff/tokens"
)

// refusal is what the parser panics with, when a token is wrong.
type refusal struct {
	fault api.Fault
}

// parser reads a formula; makers counts the tokens that have made a node.
type parser struct {
	*tokens.Reader
	list   []api.Node
	makers int
}

// Parse reads a formula; or tells a *api.Fault.
func Parse(text string) (f []api.Node, err error) {
	list, err := scan.All(text)
	if err != nil {
		return nil, err
	}
	defer func() {
		switch wrong := recover().(type) {
		case nil:
		case refusal:
			f, err = nil, &wrong.fault
		default:
			panic(wrong)
		}
	}()
	p := parser{Reader: tokens.New(withoutLines(list))}
	p.formula()
	p.must(api.TokEnd, "")
	return p.list, nil
}

func withoutLines(list []api.Token) []api.Token {
	var rest []api.Token
	for _, token := range list {
		if token.Kind != api.TokLine {
			rest = append(rest, token)
		}
	}
	return rest
}

func (p *parser) formula() int { return p.chain("|", api.FOr, p.and) }

func (p *parser) and() int { return p.chain("&", api.FAnd, p.unary) }

// chain reads operands with a sign between them; the ones ahead are put together first.
func (p *parser) chain(sign string, kind int, operand func() int) int {
	first := operand()
	for token := p.Peek(); token.Kind == api.TokSign && token.Text == sign; token = p.Peek() {
		p.maker()
		second := operand()
		first = p.add(api.Node{Kind: kind, A: first, B: second, At: token.At})
	}
	return first
}

func (p *parser) unary() int {
	token := p.Peek()
	switch token.Text {
	case "~":
		p.maker()
		return p.above(token, api.FNot, "", p.unary)
	case "<":
		p.maker()
		return p.above(token, api.FDia, p.action(">"), p.unary)
	case "[":
		p.maker()
		return p.above(token, api.FBox, p.action("]"), p.unary)
	case "(":
		p.Next()
		inner := p.formula()
		p.must(api.TokSign, ")")
		return inner
	case "mu":
		p.maker()
		return p.above(token, api.FMu, p.variable(), p.formula)
	case "nu":
		p.maker()
		return p.above(token, api.FNu, p.variable(), p.formula)
	}
	return p.leaf()
}

// above reads an operand, and sets a node above it.
func (p *parser) above(token api.Token, kind int, name string, operand func() int) int {
	return p.add(api.Node{Kind: kind, A: operand(), Name: name, At: token.At})
}

func (p *parser) leaf() int {
	token := p.Peek()
	n := api.Node{At: token.At}
	switch {
	case token.Text == "tt":
		n.Kind = api.FTrue
	case token.Text == "ff":
		n.Kind = api.FFalse
	case token.Kind == api.TokName:
		n.Kind, n.Name = api.FProp, token.Text
	case token.Kind == api.TokVar:
		n.Kind, n.Name = api.FVar, token.Text
	default:
		refuse(token, tokens.Misfit(token))
	}
	p.maker()
	return p.add(n)
}

// action reads an action, and the sign behind it.
func (p *parser) action(closing string) string {
	token := p.Next()
	if token.Text != api.Any && (token.Kind != api.TokName || names.Reserved(token.Text)) {
		refuse(token, tokens.Misfit(token))
	}
	p.must(api.TokSign, closing)
	return token.Text
}

// variable reads a variable, and the dot behind it.
func (p *parser) variable() string {
	token := p.Next()
	if token.Kind != api.TokVar {
		refuse(token, tokens.Misfit(token))
	}
	p.must(api.TokSign, ".")
	return token.Text
}

// must reads a token that must be of a kind and a text.
func (p *parser) must(kind int, text string) {
	if token := p.Next(); token.Kind != kind || token.Text != text {
		refuse(token, tokens.Misfit(token))
	}
}

// maker reads a token that makes a node.
func (p *parser) maker() {
	token := p.Next()
	if p.makers == api.MaxNodes {
		refuse(token, api.ErrMany)
	}
	p.makers++
}

func (p *parser) add(n api.Node) int {
	p.list = append(p.list, n)
	return len(p.list) - 1
}

func refuse(token api.Token, wrong api.Errno) {
	panic(refusal{api.Fault{At: token.At, Err: wrong}})
}
