package cycles_test

import (
	"math"
	"slices"
	"testing"

	"bailiff/cycles"
	"bailiff/samples"
)

// sample is the chapter's graph.
func sample() [][]int { return [][]int{{1}, {0, 2}, {2}, {0}} }

func same(a, b [][]int) bool { return slices.EqualFunc(a, b, slices.Equal[[]int]) }

func TestK1Components(t *testing.T) {
	for _, x := range []struct{ next, want [][]int }{
		{sample(), [][]int{{0, 1}, {2}, {3}}}, {nil, nil}, {[][]int{}, nil}, {[][]int{nil}, [][]int{{0}}}, {[][]int{{0}}, [][]int{{0}}},
		{[][]int{{-1, 1, 99, math.MinInt}, {math.MaxInt, 2, 0, 0}}, [][]int{{0, 1}}}, {[][]int{{2}, {0}, {1}}, [][]int{{0, 1, 2}}}, {[][]int{{2}, {2}, {}, {2, 1, 0, 4}, {3}}, [][]int{{0}, {1}, {2}, {3, 4}}},
		{[][]int{{3}, {2}, {1}, {0}}, [][]int{{0, 3}, {1, 2}}}, {[][]int{{1}, {2}, {3}, {1}}, [][]int{{0}, {1, 2, 3}}},
	} {
		if got := cycles.Components(x.next); !same(got, x.want) {
			t.Errorf("K1: %v: %v", x.next, got)
		}
	}
}

func TestK2Bad(t *testing.T) {
	lone := [][]int{{1}, {0, 2}, {}, {0}}
	for _, x := range []struct {
		next     [][]int
		priority []int
		parity   int
		want     int
	}{
		{sample(), []int{1, 2, 3, 7}, 0, 1}, {sample(), []int{1, 2, 3, 7}, 1, 2}, {lone, []int{1, 2, 3, 7}, 1, -1}, {lone, []int{1, 2, 3, 7}, 0, 1}, {nil, nil, 0, -1}, {nil, []int{1}, 1, -1},
		{[][]int{{0}}, nil, 0, 0}, {[][]int{{0}}, nil, 1, -1}, {[][]int{{0}}, []int{5}, 3, 0}, {[][]int{{0}}, []int{5}, -1, 0}, {[][]int{{0}}, []int{5}, -2, -1}, {[][]int{{0}}, []int{-5}, 1, 0}, {[][]int{{0}}, []int{-4}, 0, 0}, {[][]int{{0}}, []int{-4}, 1, -1},
		{[][]int{{1}, {0}}, []int{3, 3}, 1, 0}, {[][]int{{1}, {0}}, []int{1, 3}, 1, 1}, {[][]int{{1}, {0}}, []int{-2, -1}, 0, -1}, {[][]int{{1}, {0}}, []int{-2, -1}, 1, 1}, {[][]int{{1}, {0}}, []int{-1}, 0, 1},
		{[][]int{{1, 0}, {0}}, []int{1, 2}, 1, 0}, {[][]int{{0, 7, -1}}, []int{1, 9}, 1, 0}, {[][]int{{}, {1, 1}}, []int{1, 1}, 1, 1}, {[][]int{{1}, {}}, []int{1, 1}, 1, -1},
		// One goes round below the top, then with the top away round again.
		{[][]int{{1}, {2, 0}, {3}, {2, 0}}, []int{8, 6, 5, 1}, 1, 2}, {[][]int{{1}, {2, 0}, {3}, {2, 0}}, []int{8, 7, 6, 1}, 1, -1}, {[][]int{{1}, {2, 0}, {3}, {2, 0}}, []int{7, 7, 6, 1}, 0, 2},
		{[][]int{{0}}, []int{math.MinInt}, math.MinInt, 0}, {[][]int{{0}}, []int{math.MaxInt}, math.MaxInt, 0},
	} {
		if got := cycles.Bad(x.next, x.priority, x.parity); got != x.want {
			t.Errorf("K2: of %d, %v with %v: %d, want %d", x.parity, x.next, x.priority, got, x.want)
		}
	}
}

// comes tells which nodes can be come to from one by a step or more, through nodes whose priority is not above a bound.
func comes(next [][]int, priority []int, bound, from int) []bool {
	met := make([]bool, len(next))
	for queue := []int{from}; len(queue) > 0; queue = queue[1:] {
		for _, to := range next[queue[0]] {
			if to >= 0 && to < len(next) && !met[to] && of(priority, to) <= bound {
				met[to] = true
				queue = append(queue, to)
			}
		}
	}
	return met
}

func of(priority []int, node int) int {
	if node < len(priority) {
		return priority[node]
	}
	return 0
}

// graph is a graph with all kinds of steps, and some priorities.
func graph(seed int) ([][]int, []int) {
	source := samples.New(seed)
	next := make([][]int, 1+source.Below(14))
	steps := 1 + source.Below(3)
	for i := range next {
		for range source.Below(steps + 1) {
			next[i] = append(next[i], source.Below(len(next)+2)-1)
		}
	}
	priority := make([]int, source.Below(len(next)+2))
	for i := range priority {
		priority[i] = source.Below(9) - 3
	}
	return next, priority
}

func TestFollowsByWords(t *testing.T) {
	for i := range 1500 {
		next, priority := graph(i)
		var want [][]int
		for a := range next {
			var own []int
			for b := range next {
				if a == b || comes(next, nil, 0, a)[b] && comes(next, nil, 0, b)[a] {
					own = append(own, b)
				}
			}
			if own[0] == a {
				want = append(want, own)
			}
		}
		if got := cycles.Components(next); !same(got, want) {
			t.Fatalf("K1: %v: %v, not %v", next, got, want)
		}
		for parity := range 2 {
			bad := slices.IndexFunc(numbers(len(next)), func(node int) bool {
				p := of(priority, node)
				return p&1 == parity && comes(next, priority, p, node)[node]
			})
			if got := cycles.Bad(next, priority, parity+2*(i%3-1)); got != bad {
				t.Fatalf("K2: of %d, %v with %v: %d, not %d", parity, next, priority, got, bad)
			}
		}
	}
}

func numbers(n int) []int {
	l := make([]int, n)
	for i := range l {
		l[i] = i
	}
	return l
}

func TestFollowsTurned(t *testing.T) {
	for i := range 300 {
		next, _ := graph(i)
		turned := make([][]int, len(next))
		for from, l := range next {
			for _, to := range l {
				if to >= 0 && to < len(next) {
					turned[to] = append(turned[to], from)
				}
			}
		}
		if !same(cycles.Components(next), cycles.Components(turned)) {
			t.Fatalf("K1: %v turned round", next)
		}
	}
}

func TestR1Long(t *testing.T) {
	const n = 1 << 18
	ring := make([][]int, n)
	for i := range ring {
		ring[i] = []int{(i + 1) % n}
	}
	if got := cycles.Components(ring); len(got) != 1 || len(got[0]) != n {
		t.Errorf("K1: of a long ring %d components", len(got))
	}
	if got := cycles.Bad(ring, []int{0, 0, 2, 1}, 0); got != 2 {
		t.Errorf("K2: of a long ring: %d", got)
	}
	ring[n-1] = nil
	if got := cycles.Components(ring); len(got) != n || got[7][0] != 7 {
		t.Errorf("K1: of a long way %d components", len(got))
	}
	if got := cycles.Bad(ring, numbers(n), 1); got != -1 {
		t.Errorf("K2: of a long way: %d", got)
	}
}

func TestR5(t *testing.T) {
	next, priority := sample(), []int{1, 2, 3, 7}
	got := cycles.Components(next)
	cycles.Bad(next, priority, 1)
	for _, l := range got {
		_ = append(l, 99, 99)
	}
	if !same(got, [][]int{{0, 1}, {2}, {3}}) {
		t.Error("R5: two lists of one answer share memory")
	}
	got[0][0] = 9
	if !same(next, sample()) || !slices.Equal(priority, []int{1, 2, 3, 7}) {
		t.Error("R5: a graph was written into")
	}
}
