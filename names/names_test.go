package names_test

import (
	"testing"

	"bailiff/names"
)

func TestNames(t *testing.T) {
	for _, c := range []struct {
		s               string
		plain, variable bool
	}{
		{"a", true, false}, {"z9_Z", true, false}, {"abcdefgh", true, false}, {"abcdefghi", false, false}, {"tta", true, false},
		{"X", false, true}, {"Xa_0", false, true}, {"ABCDEFGH", false, true}, {"ABCDEFGHI", false, false},
		{"", false, false}, {"_a", false, false}, {"0a", false, false}, {"a b", false, false}, {"a-", false, false}, {"a\n", false, false}, {"a\xc3", false, false},
		{"tt", false, false}, {"ff", false, false}, {"mu", false, false}, {"nu", false, false}, {"-", false, false},
	} {
		if names.Plain(c.s) != c.plain || names.Variable(c.s) != c.variable {
			t.Errorf("names: %q: %v, %v", c.s, names.Plain(c.s), names.Variable(c.s))
		}
	}
}
