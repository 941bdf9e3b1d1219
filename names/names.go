// Package names tells which texts may name actions, propositions and variables.
package names

import (
	"bailiff/api"
)

// Reserved tells whether a text is a word of formulas, and so names nothing.
func Reserved(s string) bool { return s == "tt" || s == "ff" || s == "mu" || s == "nu" }

// Plain tells whether a text may name an action or a proposition.
func Plain(s string) bool { return made(s, 'a', 'z') && !Reserved(s) }

// Variable tells whether a text may name a variable.
func Variable(s string) bool { return made(s, 'A', 'Z') }

// made tells whether a text has the length and the bytes of a name, the first one being from low to high.
func made(s string, low, high byte) bool {
	if len(s) < 1 || len(s) > api.MaxName || s[0] < low || s[0] > high {
		return false
	}
	for i := range len(s) {
		if !inner(s[i]) {
			return false
		}
	}
	return true
}

func inner(c byte) bool {
	return 'a' <= c && c <= 'z' || 'A' <= c && c <= 'Z' || '0' <= c && c <= '9' || c == '_'
}
