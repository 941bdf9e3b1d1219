package nodes_test

import (
	"slices"
	"testing"

	"bailiff/api"
	"bailiff/nodes"
)

func TestBelow(t *testing.T) {
	for kind := -1; kind <= 14; kind++ {
		want := 0
		switch kind {
		case api.FNot, api.FDia, api.FBox, api.FMu, api.FNu:
			want = 1
		case api.FAnd, api.FOr:
			want = 2
		}
		got := nodes.Below(api.Node{Kind: kind, A: 7, B: 9})
		if !slices.Equal(got, []int{7, 9}[:want]) || nodes.IsFix(kind) != (kind == api.FMu || kind == api.FNu) {
			t.Errorf("nodes: below the kind %d stand %v", kind, got)
		}
	}
}

func TestPlain(t *testing.T) {
	f := []api.Node{{Kind: api.FNProp, Name: "p", At: 3}, {Kind: api.FNot}}
	got := nodes.Plain(f)
	if !slices.Equal(got, []api.Node{{Kind: api.FProp, Name: "p", At: 3}, {Kind: api.FNot}}) || f[0].Kind != api.FNProp {
		t.Errorf("nodes: plain %v of %v", got, f)
	}
}
