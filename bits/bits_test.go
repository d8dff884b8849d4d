package bits

import (
	"math"
	"slices"
	"testing"

	"sortilege/api"
)

// The sizes around the ends of words, and the least and the greatest.
var sizes = []int{0, 1, 2, 5, 63, 64, 65, 127, 128, 129, 200, 4095, 4096}

// must: the set of some.
func must(t *testing.T, size int, l ...int) *Set {
	t.Helper()
	s, err := Of(size, l)
	if err != nil || s == nil {
		t.Fatalf("Of(%d, %v): %v, %v", size, l, s, err)
	}
	return s
}

// want that a set has just these, as every call that tells of it says.
func want(t *testing.T, what string, s *Set, size int, l ...int) {
	t.Helper()
	if s.Size() != size || s.Count() != len(l) || !slices.Equal(s.Items(), l) {
		t.Errorf("%s: size %d, count %d, items %v; want size %d, items %v", what, s.Size(), s.Count(), s.Items(), size, l)
	}
	for i := -2; i < size+70; i++ {
		if s.Has(i) != slices.Contains(l, i) {
			t.Errorf("%s: Has(%d): %v", what, i, s.Has(i))
		}
	}
}

// multiples of a number below a size.
func multiples(of, size int) []int {
	var l []int
	for i := 0; i < size; i += of {
		l = append(l, i)
	}
	return l
}

// keep those of l that are so.
func keep(l []int, so func(int) bool) []int {
	return slices.DeleteFunc(slices.Clone(l), func(i int) bool { return !so(i) })
}

// P1.1
func TestNewAtTheEdgesOfSize(t *testing.T) {
	for _, size := range sizes {
		s, err := New(size)
		if err != nil || s == nil {
			t.Fatalf("New(%d): %v, %v", size, s, err)
		}
		want(t, "New", s, size)
	}
	for _, size := range []int{-1, -64, math.MinInt, 4097, 1 << 32, math.MaxInt} {
		if s, err := New(size); s != nil || err != api.ErrArg {
			t.Errorf("New(%d): %v, %v", size, s, err)
		}
	}
}

// P1.1
func TestOfIsTheSetOfThese(t *testing.T) {
	want(t, "the chapter's example", must(t, 5, 3, 1), 5, 1, 3)
	want(t, "twice the same", must(t, 70, 69, 0, 64, 0, 63), 70, 0, 63, 64, 69)
	want(t, "the greatest size", must(t, 4096, 4095, 0), 4096, 0, 4095)
	for _, size := range sizes {
		want(t, "none", must(t, size), size)
		all := multiples(1, size)
		want(t, "all", must(t, size, all...), size, all...)
	}
}

// P1.1
func TestOfRefusesWhatCanNotBe(t *testing.T) {
	for _, size := range sizes {
		for _, i := range []int{-1, size, size + 1, math.MinInt, math.MaxInt} {
			for _, l := range [][]int{{i}, append(multiples(1, size), i), append([]int{i}, multiples(1, size)...)} {
				if s, err := Of(size, l); s != nil || err != api.ErrArg {
					t.Errorf("Of(%d) with %d: %v, %v", size, i, s, err)
				}
			}
		}
	}
	for _, size := range []int{-1, math.MinInt, 4097, math.MaxInt} {
		for _, l := range [][]int{nil, {}, {0}, {-1}} {
			if s, err := Of(size, l); s != nil || err != api.ErrArg {
				t.Errorf("Of(%d, %v): %v, %v", size, l, s, err)
			}
		}
	}
}

// P1.1, R4
func TestOfLeavesItsListAlone(t *testing.T) {
	l := []int{3, 1, 3}
	s := must(t, 5, l...)
	s.Add(0)
	if !slices.Equal(l, []int{3, 1, 3}) {
		t.Errorf("the list became %v", l)
	}
	l[0] = 4
	want(t, "the set", s, 5, 0, 1, 3)
}

// P1.1
func TestAddAndDelWithinTheSize(t *testing.T) {
	for _, size := range sizes {
		s := must(t, size)
		for _, i := range multiples(1, size) {
			if s.Has(i) || s.Del(i) || !s.Add(i) || !s.Has(i) || s.Add(i) || s.Count() != i+1 {
				t.Fatalf("size %d: adding %d", size, i)
			}
		}
		for _, i := range multiples(1, size) {
			if !s.Has(i) || s.Add(i) || !s.Del(i) || s.Has(i) || s.Del(i) || s.Count() != size-i-1 {
				t.Fatalf("size %d: taking off %d", size, i)
			}
		}
		want(t, "in the end", s, size)
	}
}

// P1.1
func TestAddDelAndHasBeyondTheSize(t *testing.T) {
	for _, size := range sizes {
		all := multiples(1, size)
		none, full := must(t, size), must(t, size, all...)
		for _, i := range []int{-1, -63, -64, -65, math.MinInt, size, size + 1, size + 63, size + 64, 4096, math.MaxInt} {
			for _, s := range []*Set{none, full} {
				if s.Add(i) || s.Has(i) || s.Del(i) {
					t.Errorf("size %d: %d counts", size, i)
				}
			}
		}
		want(t, "none", none, size)
		want(t, "full", full, size, all...)
	}
}

// P1.1
func TestItemsAreTheCallers(t *testing.T) {
	s := must(t, 70, 2, 69)
	l := s.Items()
	l[0] = 5
	want(t, "the set", s, 70, 2, 69)
	s.Del(2)
	if !slices.Equal(l, []int{5, 69}) {
		t.Errorf("the list became %v", l)
	}
}

// P1.1
func TestNextFromEverywhere(t *testing.T) {
	for _, size := range []int{0, 1, 64, 65, 200, 4096} {
		for _, of := range []int{1, 2, 63, 64, 65, 130, 5000} {
			l := multiples(of, size)
			s := must(t, size, l...)
			for from := -3; from < size+3; from++ {
				at, _ := slices.BinarySearch(l, from)
				i, ok := s.Next(from)
				if ok != (at < len(l)) || ok && i != l[at] || !ok && i != 0 {
					t.Fatalf("size %d, multiples of %d: Next(%d): %d, %v", size, of, from, i, ok)
				}
			}
		}
	}
}

// P1.1
func TestNextAtTheEndsOfNumbers(t *testing.T) {
	s := must(t, 4096, 7, 4095)
	for _, c := range []struct {
		from, i int
		ok      bool
	}{
		{math.MinInt, 7, true}, {-1, 7, true}, {7, 7, true}, {8, 4095, true}, {4095, 4095, true},
		{4096, 0, false}, {math.MaxInt, 0, false},
	} {
		if i, ok := s.Next(c.from); i != c.i || ok != c.ok {
			t.Errorf("Next(%d): %d, %v", c.from, i, ok)
		}
	}
	s.Del(4095)
	if i, ok := s.Next(8); i != 0 || ok {
		t.Errorf("behind the last one: %d, %v", i, ok)
	}
}

// P1.1, P1.2
func TestOfNil(t *testing.T) {
	var s *Set
	for _, i := range []int{math.MinInt, -1, 0, 1, math.MaxInt} {
		if s.Add(i) || s.Del(i) || s.Has(i) {
			t.Errorf("nil: %d counts", i)
		}
		if n, ok := s.Next(i); n != 0 || ok {
			t.Errorf("nil: Next(%d): %d, %v", i, n, ok)
		}
	}
	want(t, "nil", s, 0)
	for _, o := range []*Set{nil, must(t, 0), must(t, 5, 1)} {
		if s.Join(o) || s.Minus(o) || s.Meet(o) {
			t.Error("nil: something was otherwise")
		}
	}
	if s.Copy() != nil {
		t.Error("nil: Copy")
	}
}

// R1: a set that nobody made is one of size 0.
func TestOfAnUnmadeSet(t *testing.T) {
	s := &Set{}
	o := must(t, 70, 0, 69)
	if s.Add(0) || s.Del(0) || s.Has(0) || s.Join(o) || s.Minus(o) || s.Meet(o) || s.Meet(nil) {
		t.Error("something was otherwise")
	}
	if i, ok := s.Next(-1); i != 0 || ok {
		t.Errorf("Next: %d, %v", i, ok)
	}
	if !s.Same(must(t, 0)) || !must(t, 0).Same(s) || !s.Copy().Same(s) {
		t.Error("it isn't the empty set of size 0")
	}
	want(t, "unmade", s, 0)
}

// operations of two sets, and what is left of the first one's numbers, told by
// whether each has a number.
var operations = []struct {
	name string
	do   func(s, o *Set) bool
	so   func(own, other bool) bool
}{
	{"Join", (*Set).Join, func(own, other bool) bool { return own || other }},
	{"Minus", (*Set).Minus, func(own, other bool) bool { return own && !other }},
	{"Meet", (*Set).Meet, func(own, other bool) bool { return own && other }},
}

// pairs of lists goes over sets of all pairs of sizes, full, empty and in between.
func pairs(yield func(size int, l []int, other int, m []int)) {
	steps := []int{1, 2, 3, 63, 64}
	for _, size := range []int{0, 1, 5, 63, 64, 65, 128, 200} {
		for _, other := range []int{0, 1, 5, 63, 64, 65, 128, 129, 200, 300} {
			yield(size, nil, other, nil)
			for _, of := range steps {
				yield(size, multiples(of, size), other, nil)
				yield(size, nil, other, multiples(of, other))
				for _, by := range steps {
					yield(size, multiples(of, size), other, multiples(by, other))
				}
			}
		}
	}
}

// P1.2
func TestJoinMinusMeetOfOtherSizes(t *testing.T) {
	for _, op := range operations {
		pairs(func(size int, l []int, other int, m []int) {
			s, o := must(t, size, l...), must(t, other, m...)
			left := keep(multiples(1, size), func(i int) bool {
				return op.so(slices.Contains(l, i), slices.Contains(m, i))
			})
			if got := op.do(s, o); got != !slices.Equal(left, l) {
				t.Errorf("%s of %d %v with %d %v: %v", op.name, size, l, other, m, got)
			}
			want(t, op.name, s, size, left...)
			want(t, op.name+": the other one", o, other, m...)
			if op.do(s, o) {
				t.Errorf("%s of %d %v with %d %v: again", op.name, size, l, other, m)
			}
		})
	}
}

// P1.2
func TestJoinMinusMeetWithItself(t *testing.T) {
	for _, size := range sizes {
		for _, l := range [][]int{nil, multiples(1, size), multiples(3, size)} {
			s := must(t, size, l...)
			if s.Join(s) || s.Meet(s) {
				t.Errorf("size %d: something was otherwise", size)
			}
			want(t, "joined and met", s, size, l...)
			if got := s.Minus(s); got != (len(l) > 0) {
				t.Errorf("size %d: Minus: %v", size, got)
			}
			want(t, "less itself", s, size)
		}
	}
}

// P1.2
func TestJoinMinusMeetWithNil(t *testing.T) {
	for _, size := range sizes {
		for _, l := range [][]int{nil, multiples(1, size), multiples(3, size)} {
			s := must(t, size, l...)
			if s.Join(nil) || s.Minus(nil) {
				t.Errorf("size %d: something was otherwise", size)
			}
			want(t, "with nil", s, size, l...)
			if got := s.Meet(nil); got != (len(l) > 0) {
				t.Errorf("size %d: Meet: %v", size, got)
			}
			want(t, "met with nil", s, size)
		}
	}
}

// P1.2
func TestNothingComesInFromBeyondTheSize(t *testing.T) {
	s, o := must(t, 65, 64), must(t, 4096, multiples(1, 4096)...)
	if !s.Join(o) || s.Count() != 65 || s.Has(65) || !s.Same(must(t, 65, multiples(1, 65)...)) {
		t.Errorf("Join: %v", s.Items())
	}
	if i, ok := s.Next(65); i != 0 || ok {
		t.Errorf("Next: %d, %v", i, ok)
	}
	e := must(t, 65)
	if e.Join(must(t, 128, 65, 66, 127)) || e.Count() != 0 {
		t.Errorf("Join of what lies beyond: %v", e.Items())
	}
}

// P1.2
func TestSame(t *testing.T) {
	var none *Set
	s := must(t, 70, 1, 69)
	for _, c := range []struct {
		name string
		a, b *Set
		same bool
	}{
		{"itself", s, s, true},
		{"another with the same", s, must(t, 70, 69, 1), true},
		{"one less", s, must(t, 70, 1), false},
		{"one more", s, must(t, 70, 1, 2, 69), false},
		{"another size, the same words", s, must(t, 71, 1, 69), false},
		{"another size, more words", s, must(t, 200, 1, 69), false},
		{"empty ones of one size", must(t, 64), must(t, 64), true},
		{"empty ones of other sizes", must(t, 64), must(t, 63), false},
		{"of size 0", must(t, 0), must(t, 0), true},
		{"nil and nil", none, nil, true},
		{"nil and an empty one", none, must(t, 0), false},
		{"nil and one", none, s, false},
	} {
		if c.a.Same(c.b) != c.same || c.b.Same(c.a) != c.same {
			t.Errorf("%s: %v, %v", c.name, c.a.Same(c.b), c.b.Same(c.a))
		}
	}
	want(t, "the set", s, 70, 1, 69)
}

// P1.2
func TestCopyAndNeitherChangesWithTheOther(t *testing.T) {
	for _, size := range sizes {
		l := multiples(2, size)
		s := must(t, size, l...)
		c := s.Copy()
		if c == s || !c.Same(s) || !s.Same(c) {
			t.Fatalf("size %d: Copy", size)
		}
		want(t, "the copy", c, size, l...)
		s.Meet(nil)
		want(t, "the copy, the set emptied", c, size, l...)
		s.Join(c)
		c.Minus(c)
		want(t, "the set, the copy emptied", s, size, l...)
		want(t, "the copy, emptied", c, size)
	}
}

// P1.3
func TestJoinedAndTakenOffAgain(t *testing.T) {
	pairs(func(size int, l []int, other int, m []int) {
		s, o := must(t, size, l...), must(t, other, m...)
		both := s.Copy()
		both.Meet(o)
		less := s.Copy()
		less.Minus(both)
		s.Join(o)
		s.Minus(o)
		left := keep(l, func(i int) bool { return !slices.Contains(m, i) })
		want(t, "joined and taken off", s, size, left...)
		if !s.Same(less) {
			t.Errorf("%d %v with %d %v: %v, not %v", size, l, other, m, s.Items(), less.Items())
		}
	})
}
