// Package nodes tells what the kinds of a formula's nodes have in common.
package nodes

import (
	"slices"

	"bailiff/api"
)

// Below are the nodes below one, the first one ahead.
func Below(n api.Node) []int {
	switch n.Kind {
	case api.FNot, api.FDia, api.FBox, api.FMu, api.FNu:
		return []int{n.A}
	case api.FAnd, api.FOr:
		return []int{n.A, n.B}
	}
	return nil
}

// IsFix tells whether a kind is that of a fixpoint.
func IsFix(kind int) bool { return kind == api.FMu || kind == api.FNu }

// Plain are the nodes with each FNProp taken for an FProp: what names have to do with it is the same then.
func Plain(f []api.Node) []api.Node {
	plain := slices.Clone(f)
	for i := range plain {
		if plain[i].Kind == api.FNProp {
			plain[i].Kind = api.FProp
		}
	}
	return plain
}
