package writ

import (
	"strconv"

	"bailiff/api"
	"bailiff/scan"
	"bailiff/tokens"
)

// refusal is what the reader panics with, when it gives up.
type refusal struct {
	fault api.Fault
}

// reader reads a claim on so many positions.
type reader struct {
	*tokens.Reader
	positions int
}

// Parse reads a claim, and on how many positions it is; or tells a *api.Fault.
func Parse(text string) (n int, c api.Claim, err error) {
	list, err := scan.All(text)
	if err != nil {
		return 0, api.Claim{}, err
	}
	defer func() {
		switch wrong := recover().(type) {
		case nil:
		case refusal:
			n, c, err = 0, api.Claim{}, &wrong.fault
		default:
			panic(wrong)
		}
	}()
	r := reader{Reader: tokens.New(list)}
	r.head()
	for player := range 2 {
		r.name("region", player)
		r.each(func(at int) { c.Regions[player] = append(c.Regions[player], at) })
	}
	for player := range 2 {
		moves := make([]int, r.positions)
		for at := range moves {
			moves[at] = none
		}
		r.name("moves", player)
		r.each(func(at int) {
			r.must(api.TokSign, ":")
			moves[at] = r.position().Number
		})
		c.Moves[player] = moves
	}
	r.SkipLines()
	r.must(api.TokEnd, "")
	return r.positions, c, nil
}

func (r *reader) head() {
	r.SkipLines()
	r.must(api.TokName, "claim")
	token := r.number()
	if token.Number < 1 || token.Number > api.MaxPositions {
		refuse(token, api.ErrRange)
	}
	r.positions = token.Number
	if end := r.Next(); !tokens.Ends(end) {
		refuse(end, tokens.Misfit(end))
	}
}

// name reads what a line of a player begins with.
func (r *reader) name(name string, player int) {
	r.SkipLines()
	r.must(api.TokName, name)
	r.must(api.TokNumber, strconv.Itoa(player))
}

// each does something with each position that stands in the rest of a line, which must rise.
func (r *reader) each(do func(at int)) {
	last := none
	for !tokens.Ends(r.Peek()) {
		token := r.position()
		if token.Number <= last {
			refuse(token, api.ErrTwice)
		}
		last = token.Number
		do(last)
	}
}

func (r *reader) position() api.Token {
	token := r.number()
	if token.Number >= r.positions {
		refuse(token, api.ErrRange)
	}
	return token
}

func (r *reader) number() api.Token {
	token := r.Next()
	if token.Kind != api.TokNumber {
		refuse(token, tokens.Misfit(token))
	}
	return token
}

// must reads a token that must be of a kind and a text.
func (r *reader) must(kind int, text string) {
	if token := r.Next(); token.Kind != kind || token.Text != text {
		refuse(token, tokens.Misfit(token))
	}
}

func refuse(token api.Token, wrong api.Errno) {
	panic(refusal{api.Fault{At: token.At, Err: wrong}})
}
