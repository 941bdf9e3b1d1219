package tokens_test

import (
	"testing"

	"bailiff/api"
	"bailiff/scan"
	"bailiff/tokens"
)

func reader(t *testing.T, text string) *tokens.Reader {
	t.Helper()
	list, err := scan.All(text)
	if err != nil {
		t.Fatalf("%q: %v", text, err)
	}
	return tokens.New(list)
}

func TestReads(t *testing.T) {
	r := reader(t, "\n\na 12 : b\n")
	r.SkipLines()
	if token := r.Word(api.TokName, "a"); token.At != 2 {
		t.Errorf("a stands at %d", token.At)
	}
	if n, token := r.Number(); n != 12 || token.At != 4 {
		t.Errorf("%d stands at %d", n, token.At)
	}
	r.Word(api.TokSign, ":")
	if r.Peek().Text != "b" || r.Take(api.TokName).Text != "b" || !tokens.Ends(r.Peek()) {
		t.Error("b is not read")
	}
	r.EndLine()
	r.EndLine()
	for range 3 {
		if token := r.Next(); token.Kind != api.TokEnd {
			t.Errorf("%v behind the end", token)
		}
	}
	if r.Fault() != nil {
		t.Errorf("a fault: %v", r.Fault())
	}
}

func TestFirstFaultStays(t *testing.T) {
	for text, want := range map[string]api.Fault{
		"": {At: 0, Err: api.ErrShort}, "a": {At: 1, Err: api.ErrShort}, "1": {At: 0, Err: api.ErrWord}, "b 1": {At: 0, Err: api.ErrWord}, "a\n": {At: 1, Err: api.ErrWord},
		"1 2 3 4 5 6 7 8 9": {At: 0, Err: api.ErrWord}, "a 1 2": {At: 4, Err: api.ErrWord}, "a 1\n7": {At: 4, Err: api.ErrMove},
	} {
		r := reader(t, text)
		r.Word(api.TokName, "a")
		r.Number()
		r.EndLine()
		r.Fail(r.Peek(), api.ErrMove)
		r.Take(api.TokName)
		if fault := r.Fault(); fault == nil || *fault != want || r.Peek().Kind != api.TokEnd {
			t.Errorf("%q: %v, want %v", text, fault, want)
		}
	}
}
