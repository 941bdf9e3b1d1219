package sets_test

import (
	"math"
	"slices"
	"testing"

	"bailiff/samples"
	"bailiff/sets"
)

const all = ^uint64(0)

func TestS1Full(t *testing.T) {
	for _, c := range []struct {
		n    int
		want sets.Set
	}{
		{math.MinInt, sets.Set{}}, {-300, sets.Set{}}, {-64, sets.Set{}}, {-1, sets.Set{}}, {0, sets.Set{}},
		{1, sets.Set{1}}, {3, sets.Set{7, 0, 0, 0}}, {63, sets.Set{all >> 1}}, {64, sets.Set{all}}, {65, sets.Set{all, 1}},
		{128, sets.Set{all, all}}, {191, sets.Set{all, all, all >> 1}}, {192, sets.Set{all, all, all}},
		{255, sets.Set{all, all, all, all >> 1}}, {256, sets.Set{all, all, all, all}},
		{257, sets.Set{all, all, all, all}}, {300, sets.Set{all, all, all, all}}, {math.MaxInt, sets.Set{all, all, all, all}},
	} {
		if got := sets.Full(c.n); got != c.want {
			t.Errorf("S1: Full(%d) = %v, want %v", c.n, got, c.want)
		}
	}
	if n := sets.Full(300).Len(); n != 256 {
		t.Errorf("S1: Full(300) has %d numbers", n)
	}
}

func TestS1Of(t *testing.T) {
	for _, c := range []struct {
		l    []int
		want sets.Set
	}{
		{nil, sets.Set{}}, {[]int{}, sets.Set{}}, {[]int{0}, sets.Set{1}}, {[]int{255}, sets.Set{0, 0, 0, 1 << 63}},
		{[]int{64, 2, 64, -1, 256}, sets.Set{4, 1, 0, 0}}, {[]int{63, 127, 128}, sets.Set{1 << 63, 1 << 63, 1}},
		{[]int{-1, 256, 257, 319, -64, -256, math.MinInt, math.MaxInt}, sets.Set{}}, {[]int{5, 5, 5}, sets.Set{32}},
	} {
		before := slices.Clone(c.l)
		if got := sets.Of(c.l...); got != c.want {
			t.Errorf("S1: Of(%v) = %v, want %v", c.l, got, c.want)
		}
		if !slices.Equal(c.l, before) {
			t.Errorf("R5: Of has written into %v", before)
		}
	}
}

func TestS2Has(t *testing.T) {
	s := sets.Set{1 << 5, 1, 1 << 63, 1<<63 | 1}
	in := []int{5, 64, 191, 192, 255}
	for n := -300; n <= 600; n++ {
		if got, want := s.Has(n), slices.Contains(in, n); got != want {
			t.Errorf("S2: Has(%d) = %v", n, got)
		}
	}
	full := sets.Full(256)
	for _, n := range []int{math.MinInt, math.MaxInt, -1, 256, -256, 1 << 32, 1<<32 + 5} {
		if full.Has(n) {
			t.Errorf("S2: the full set has %d", n)
		}
	}
}

func TestS2Tells(t *testing.T) {
	for _, c := range []struct {
		s    sets.Set
		list []int
	}{
		{sets.Set{}, nil}, {sets.Set{1}, []int{0}}, {sets.Set{4, 1}, []int{2, 64}}, {sets.Set{0, 0, 0, 1 << 63}, []int{255}},
		{sets.Set{6, 0, 1 << 63, 1}, []int{1, 2, 191, 192}}, {sets.Set{0, 0, 3, 0}, []int{128, 129}},
	} {
		if got := c.s.List(); !slices.Equal(got, c.list) {
			t.Errorf("S2: List of %v = %v", c.s, got)
		}
		if got := c.s.Len(); got != len(c.list) {
			t.Errorf("S2: Len of %v = %d", c.s, got)
		}
		least := -1
		if len(c.list) > 0 {
			least = c.list[0]
		}
		if got := c.s.Least(); got != least {
			t.Errorf("S2: Least of %v = %d", c.s, got)
		}
	}
	if sets.Of().Least() != -1 {
		t.Error("S2: the least of no numbers")
	}
}

func TestS2ListIsNew(t *testing.T) {
	s := sets.Of(1, 70, 200)
	l := s.List()
	l[0] = 99
	_ = append(l, 5)
	if !slices.Equal(s.List(), []int{1, 70, 200}) {
		t.Error("R5: List shares memory with a set")
	}
}

func TestS2In(t *testing.T) {
	for _, c := range []struct {
		s, t sets.Set
		want bool
	}{
		{sets.Set{}, sets.Set{}, true}, {sets.Set{}, sets.Of(1), true}, {sets.Of(1), sets.Set{}, false},
		{sets.Of(1, 2), sets.Of(2, 1, 0), true}, {sets.Of(2, 1, 0), sets.Of(1, 2), false},
		{sets.Of(1, 255), sets.Of(1), false}, {sets.Of(64), sets.Of(0), false}, {sets.Of(130), sets.Full(131), true},
		{sets.Full(256), sets.Full(256), true}, {sets.Full(256), sets.Full(255), false},
	} {
		if got := c.s.In(c.t); got != c.want {
			t.Errorf("S2: %v in %v: %v", c.s.List(), c.t.List(), got)
		}
	}
}

func TestS3WithLess(t *testing.T) {
	s := sets.Of(5, 100)
	for _, c := range []struct{ got, want sets.Set }{
		{sets.Of(5).With(255).Less(5).Less(7), sets.Set{0, 0, 0, 1 << 63}},
		{s.With(0), sets.Set{33, 1 << 36}}, {s.With(64), sets.Set{32, 1<<36 | 1}}, {s.With(5), s}, {s.Less(5), sets.Set{0, 1 << 36}},
		{s.Less(100), sets.Set{32}}, {s.Less(6), s}, {s.Less(69), s},
		{s.With(-1), s}, {s.With(256), s}, {s.With(math.MinInt), s}, {s.With(math.MaxInt), s},
		{s.Less(-1), s}, {s.Less(256 + 5), s}, {s.Less(-256 + 5), s}, {s.Less(math.MinInt), s}, {s.Less(math.MaxInt), s},
	} {
		if c.got != c.want {
			t.Errorf("S3: %v, want %v", c.got.List(), c.want.List())
		}
	}
	if s != sets.Of(5, 100) {
		t.Error("S3: a set has changed")
	}
}

func TestS3OrAndMinus(t *testing.T) {
	a, b := sets.Of(1, 2, 70, 255), sets.Of(2, 3, 70, 71, 130)
	for _, c := range []struct {
		got  sets.Set
		want []int
	}{
		{a.Or(b), []int{1, 2, 3, 70, 71, 130, 255}}, {a.And(b), []int{2, 70}}, {a.Minus(b), []int{1, 255}}, {b.Minus(a), []int{3, 71, 130}},
		{sets.Of(1, 2).Minus(sets.Of(2, 3)), []int{1}}, {a.Minus(a), nil}, {a.Or(sets.Set{}), []int{1, 2, 70, 255}}, {a.And(sets.Set{}), nil},
	} {
		if !slices.Equal(c.got.List(), c.want) {
			t.Errorf("S3: %v, want %v", c.got.List(), c.want)
		}
	}
	if a != sets.Of(1, 2, 70, 255) || b != sets.Of(2, 3, 70, 71, 130) {
		t.Error("S3: a set has changed")
	}
}

// disorderly are sets of all kinds: bare words, so that their bits need no other call.
func disorderly(n int) []sets.Set {
	source := samples.New(n)
	l := []sets.Set{{}, {all, all, all, all}, {1}, {0, 0, 0, 1 << 63}}
	for len(l) < n {
		s := sets.Set{source.Word(), source.Word(), source.Word(), source.Word()}
		l = append(l, s, sets.Set{s[0] & s[1], 0, s[2] & s[3] & s[0], s[1] & s[2] & s[3]})
	}
	return l
}

func TestS4Laws(t *testing.T) {
	l := disorderly(24)
	for _, a := range l {
		for _, b := range l {
			if a.Or(b) != b.Or(a) || a.And(b) != b.And(a) {
				t.Fatalf("S4: the order of %v and %v matters", a, b)
			}
			if a.Minus(b) != a.Minus(a.And(b)) || a.In(b) != (a.Or(b) == b) || a.Minus(b).And(b) != (sets.Set{}) {
				t.Fatalf("S4: Minus or In of %v and %v", a, b)
			}
			if a.Or(b).Len()+a.And(b).Len() != a.Len()+b.Len() {
				t.Fatalf("S4: Len of %v and %v", a, b)
			}
			for _, c := range l {
				if a.Or(b).Or(c) != a.Or(b.Or(c)) || a.And(b).And(c) != a.And(b.And(c)) {
					t.Fatalf("S4: how %v, %v and %v are put together matters", a, b, c)
				}
				if a.And(b.Or(c)) != a.And(b).Or(a.And(c)) || a.Or(b.And(c)) != a.Or(b).And(a.Or(c)) {
					t.Fatalf("S4: %v, %v and %v are not shared out", a, b, c)
				}
			}
		}
	}
}

func TestS4ByNumbers(t *testing.T) {
	l := disorderly(12)
	for _, a := range l {
		for _, b := range l {
			or, and, minus := a.Or(b), a.And(b), a.Minus(b)
			for n := range 256 {
				if or.Has(n) != (a.Has(n) || b.Has(n)) || and.Has(n) != (a.Has(n) && b.Has(n)) || minus.Has(n) != (a.Has(n) && !b.Has(n)) {
					t.Fatalf("S3: %d in what is made of %v and %v", n, a, b)
				}
			}
		}
	}
}

func TestS5ThereAndBack(t *testing.T) {
	for _, s := range disorderly(60) {
		l := s.List()
		if sets.Of(l...) != s || len(l) != s.Len() || !slices.IsSorted(l) {
			t.Errorf("S5: List of %v is %v", s, l)
		}
		if !slices.Equal(sets.Of(l...).List(), l) {
			t.Errorf("S5: List of Of of %v", l)
		}
	}
	if m := map[sets.Set]int{sets.Of(1, 2): 7}; m[sets.Of(2, 1)] != 7 {
		t.Error("S5: one set, two keys")
	}
}
