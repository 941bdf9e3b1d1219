package scan_test

import (
	"errors"
	"slices"
	"strings"
	"testing"

	"bailiff/api"
	"bailiff/samples"
	"bailiff/scan"
)

func token(kind, at int, text string) api.Token { return api.Token{Kind: kind, At: at, Text: text} }
func number(at int, text string, n int) api.Token {
	return api.Token{Kind: api.TokNumber, At: at, Text: text, Number: n}
}

func TestC1Tokens(t *testing.T) {
	const end, line, name, vari, sign = api.TokEnd, api.TokLine, api.TokName, api.TokVar, api.TokSign
	for _, c := range []struct {
		text string
		want []api.Token
	}{
		{"", []api.Token{token(end, 0, "")}},
		{"mu X1.p2", []api.Token{token(name, 0, "mu"), token(vari, 3, "X1"), token(sign, 5, "."), token(name, 6, "p2"), token(end, 8, "")}},
		{"12ab # c\n0", []api.Token{number(0, "12", 12), token(name, 2, "ab"), token(line, 8, "\n"), number(9, "0", 0), token(end, 10, "")}},
		{" \t ", []api.Token{token(end, 3, "")}},
		{"\n\n", []api.Token{token(line, 0, "\n"), token(line, 1, "\n"), token(end, 2, "")}},
		{"#", []api.Token{token(end, 1, "")}},
		{"a#\x00\xff_ 007\r", []api.Token{token(name, 0, "a"), token(end, 10, "")}},
		{"# x\n# y", []api.Token{token(line, 3, "\n"), token(end, 7, "")}},
		{"aZ_9_z", []api.Token{token(name, 0, "aZ_9_z"), token(end, 6, "")}},
		{"Az_9Z", []api.Token{token(vari, 0, "Az_9Z"), token(end, 5, "")}},
		{"abcdefgh ABCDEFGH", []api.Token{token(name, 0, "abcdefgh"), token(vari, 9, "ABCDEFGH"), token(end, 17, "")}},
		{"9999", []api.Token{number(0, "9999", 9999), token(end, 4, "")}},
		{"10 0X1", []api.Token{number(0, "10", 10), number(3, "0", 0), token(vari, 4, "X1"), token(end, 6, "")}},
		{"-1", []api.Token{token(sign, 0, "-"), number(1, "1", 1), token(end, 2, "")}},
		{"0:0", []api.Token{number(0, "0", 0), token(sign, 1, ":"), number(2, "0", 0), token(end, 3, "")}},
	} {
		got, err := scan.All(c.text)
		if err != nil || !slices.Equal(got, c.want) {
			t.Errorf("C1: %q: %v, %v", c.text, got, err)
		}
	}
}

func TestC1Faults(t *testing.T) {
	for _, c := range []struct {
		text string
		want api.Fault
	}{
		{"007", api.Fault{At: 0, Err: api.ErrNumber}}, {"00", api.Fault{At: 0, Err: api.ErrNumber}}, {"a 01", api.Fault{At: 2, Err: api.ErrNumber}},
		{"10000", api.Fault{At: 0, Err: api.ErrNumber}}, {strings.Repeat("9", 40), api.Fault{At: 0, Err: api.ErrNumber}},
		{"18446744073709551617", api.Fault{At: 0, Err: api.ErrNumber}}, {"1" + strings.Repeat("0", 1000), api.Fault{At: 0, Err: api.ErrNumber}},
		{"a _", api.Fault{At: 2, Err: api.ErrByte}}, {"_a", api.Fault{At: 0, Err: api.ErrByte}}, {"12_", api.Fault{At: 2, Err: api.ErrByte}},
		{"abcdefghi", api.Fault{At: 0, Err: api.ErrName}}, {" ABCDEFGHI", api.Fault{At: 1, Err: api.ErrName}}, {"a________", api.Fault{At: 0, Err: api.ErrName}},
		{"a\xc8", api.Fault{At: 1, Err: api.ErrByte}}, {"\r", api.Fault{At: 0, Err: api.ErrByte}}, {"a\x00", api.Fault{At: 1, Err: api.ErrByte}},
		{"\x7f", api.Fault{At: 0, Err: api.ErrByte}}, {"# x\n\x1f", api.Fault{At: 4, Err: api.ErrByte}},
		{"abcdefghi 007", api.Fault{At: 0, Err: api.ErrName}}, {"a _ 007", api.Fault{At: 2, Err: api.ErrByte}},
	} {
		got, err := scan.All(c.text)
		checkFault(t, c.text, len(got), err, c.want)
	}
}

func checkFault(t *testing.T, text string, n int, err error, want api.Fault) {
	t.Helper()
	var fault *api.Fault
	if n != 0 || !errors.As(err, &fault) || *fault != want || !errors.Is(err, want.Err) {
		t.Errorf("C1: %.40q: %d tokens, %v, want %v", text, n, fault, want)
	}
}

func TestC1EachByte(t *testing.T) {
	for b := range 256 {
		got, err := scan.All(string([]byte{'(', byte(b), ')'}))
		kind := -1
		switch {
		case b == ' ' || b == '\t' || b == '#':
			kind = 0
		case b == '\n':
			kind = api.TokLine
		case b >= 'a' && b <= 'z':
			kind = api.TokName
		case b >= 'A' && b <= 'Z':
			kind = api.TokVar
		case b >= '0' && b <= '9':
			kind = api.TokNumber
		case b > 32 && b < 127 && b != '_':
			kind = api.TokSign
		}
		switch {
		case kind == -1:
			checkFault(t, "a byte", len(got), err, api.Fault{At: 1, Err: api.ErrByte})
		case b == '#':
			if err != nil || len(got) != 2 {
				t.Errorf("C1: a remark: %v, %v", got, err)
			}
		case kind == 0:
			if err != nil || len(got) != 3 {
				t.Errorf("C1: the blank %d: %v, %v", b, got, err)
			}
		default:
			if err != nil || len(got) != 4 || got[1].Kind != kind || got[1].At != 1 || got[1].Text != string([]byte{byte(b)}) {
				t.Errorf("C1: the byte %d: %v, %v", b, got, err)
			}
		}
	}
}

func TestC1Length(t *testing.T) {
	got, err := scan.All(strings.Repeat(" ", api.MaxText))
	if err != nil || len(got) != 1 || got[0] != token(api.TokEnd, api.MaxText, "") {
		t.Errorf("C1: MaxText blanks: %v, %v", got, err)
	}
	got, err = scan.All(strings.Repeat("(", api.MaxText))
	if err != nil || len(got) != api.MaxText+1 {
		t.Errorf("C1: MaxText signs: %d tokens, %v", len(got), err)
	}
	for _, text := range []string{strings.Repeat(" ", api.MaxText+1), "_" + strings.Repeat("9", api.MaxText)} {
		got, err = scan.All(text)
		checkFault(t, text, len(got), err, api.Fault{At: api.MaxText, Err: api.ErrText})
	}
}

// texts are made of pieces that may all stand behind one another.
func texts(n int) []string {
	pieces := []string{"a", "mu", "X", "Yz_1", "0", "12", "9999", "(", "-", "~", ":", " ", "\t", "\n", "# r 007 _\n", "p2 ", " Z"}
	source := samples.New(2)
	l := []string{"", " ", "\n", "# r", "a# r"}
	for range n {
		text := ""
		for range source.Below(12) {
			piece := pieces[source.Below(len(pieces))]
			if _, err := scan.All(text + piece); err == nil {
				text += piece
			}
		}
		l = append(l, text)
	}
	return l
}

func TestC2Places(t *testing.T) {
	for _, text := range texts(400) {
		tokens, err := scan.All(text)
		if err != nil {
			t.Fatalf("C1: %q: %v", text, err)
		}
		place := 0
		for _, token := range tokens {
			if token.At < place || token.At+len(token.Text) > len(text) || text[token.At:token.At+len(token.Text)] != token.Text {
				t.Fatalf("C2: %q: %v", text, token)
			}
			if between, err := scan.All(text[place:token.At]); err != nil || len(between) != 1 {
				t.Errorf("C2: %q: %q is let by", text, text[place:token.At])
			}
			place = token.At + len(token.Text)
		}
		if last := tokens[len(tokens)-1]; last != (api.Token{Kind: api.TokEnd, At: len(text)}) {
			t.Errorf("C2: %q ends with %v", text, last)
		}
	}
}

func TestC2Joined(t *testing.T) {
	for _, text := range texts(400) {
		tokens, _ := scan.All(text)
		joined := ""
		for _, token := range tokens {
			joined += token.Text + " "
		}
		again, err := scan.All(joined)
		same := func(a, b api.Token) bool { a.At, b.At = 0, 0; return a == b }
		if err != nil || !slices.EqualFunc(again, tokens, same) {
			t.Errorf("C2: %q and %q", text, joined)
		}
	}
}

func TestC2TwoTexts(t *testing.T) {
	l := texts(60)
	for _, a := range l {
		for _, b := range l {
			first, _ := scan.All(a)
			second, _ := scan.All(b)
			want := append(slices.Clone(first[:len(first)-1]), token(api.TokLine, len(a), "\n"))
			for _, token := range second {
				token.At += len(a) + 1
				want = append(want, token)
			}
			if got, err := scan.All(a + "\n" + b); err != nil || !slices.Equal(got, want) {
				t.Fatalf("C2: %q and %q: %v, %v", a, b, got, err)
			}
		}
	}
}
