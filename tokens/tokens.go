// Package tokens goes through the tokens of a text, from the front.
package tokens

import (
	"bailiff/api"
)

// Reader is a place among tokens. Its first fault stays: from then on it stands at the end, so that whoever reads on comes to an end too.
type Reader struct {
	list  []api.Token
	place int
	fault *api.Fault
}

// New is a reader of a scanned text's tokens, of which the last one is TokEnd.
func New(list []api.Token) *Reader { return &Reader{list: list} }

// Peek is the token at the place.
func (r *Reader) Peek() api.Token { return r.list[r.place] }

// Next is the token at the place, which is left behind, unless it is the last one.
func (r *Reader) Next() api.Token {
	token := r.Peek()
	if r.place < len(r.list)-1 {
		r.place++
	}
	return token
}

// Take is Next, where a token of one kind must stand.
func (r *Reader) Take(kind int) api.Token {
	token := r.Next()
	if token.Kind != kind {
		r.Misfit(token)
	}
	return token
}

// Number is Take of a number.
func (r *Reader) Number() (int, api.Token) {
	token := r.Take(api.TokNumber)
	return token.Number, token
}

// Word is Take of a certain text.
func (r *Reader) Word(kind int, text string) api.Token {
	token := r.Take(kind)
	if token.Text != text {
		r.Misfit(token)
	}
	return token
}

// EndLine is Take of a line's end, which may be the text's.
func (r *Reader) EndLine() {
	if token := r.Next(); !Ends(token) {
		r.Misfit(token)
	}
}

// SkipLines lets the ends of lines by.
func (r *Reader) SkipLines() {
	for r.Peek().Kind == api.TokLine {
		r.Next()
	}
}

// Misfit tells that a token may not stand where it does.
func (r *Reader) Misfit(token api.Token) { r.Fail(token, Misfit(token)) }

// Fail tells what is wrong with a token.
func (r *Reader) Fail(token api.Token, wrong api.Errno) {
	if r.fault == nil {
		r.fault = &api.Fault{At: token.At, Err: wrong}
	}
	r.place = len(r.list) - 1
}

// Fault is the first fault; nil: there is none.
func (r *Reader) Fault() *api.Fault { return r.fault }

// Ends tells whether a token ends a line.
func Ends(token api.Token) bool { return token.Kind == api.TokLine || token.Kind == api.TokEnd }

// Misfit is what is wrong with a token that may not stand where it does.
func Misfit(token api.Token) api.Errno {
	if token.Kind == api.TokEnd {
		return api.ErrShort
	}
	return api.ErrWord
}
