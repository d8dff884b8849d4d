package intern

import (
	"math"
	"slices"
	"testing"

	"sortilege/api"
)

// put a vector: it must get this number, and be new or not.
func put(t *testing.T, x *Table, v []int32, number int, fresh bool) {
	t.Helper()
	if i, isNew, err := x.Put(v); i != number || isNew != fresh || err != nil {
		t.Fatalf("Put(%v): %d, %v, %v; want %d, %v", v, i, isNew, err, number, fresh)
	}
}

// filled: a table of these vectors, no two of which are alike.
func filled(t *testing.T, l [][]int32) *Table {
	t.Helper()
	x := New()
	for i, v := range l {
		put(t, x, v, i, true)
	}
	return x
}

// want that a table has just these, as every call that tells of it says.
func want(t *testing.T, what string, x *Table, l [][]int32) {
	t.Helper()
	if x.Len() != len(l) {
		t.Errorf("%s: Len: %d; want %d", what, x.Len(), len(l))
	}
	for i, v := range l {
		if got, ok := x.At(i); !ok || !slices.Equal(got, v) {
			t.Errorf("%s: At(%d): %v, %v; want %v", what, i, got, ok, v)
		}
		if got, ok := x.Find(v); got != i || !ok {
			t.Errorf("%s: Find(%v): %d, %v; want %d", what, v, got, ok, i)
		}
	}
	for _, i := range []int{math.MinInt, -1, len(l), len(l) + 1, len(l) + 64, math.MaxInt} {
		if got, ok := x.At(i); got != nil || ok {
			t.Errorf("%s: At(%d): %v, %v", what, i, got, ok)
		}
	}
}

// missing: a table hasn't these.
func missing(t *testing.T, x *Table, l ...[]int32) {
	t.Helper()
	for _, v := range l {
		if i, ok := x.Find(v); i != 0 || ok {
			t.Errorf("Find(%v): %d, %v", v, i, ok)
		}
	}
}

// all vectors over some numbers up to a length, the shorter ones first.
func all(longest int, numbers ...int32) [][]int32 {
	l := [][]int32{{}}
	from := 0
	for range longest {
		to := len(l)
		for _, v := range l[from:to] {
			for _, n := range numbers {
				l = append(l, append(slices.Clone(v), n))
			}
		}
		from = to
	}
	return l
}

// rising: a vector of 0, 1 and so on.
func rising(length int) []int32 {
	v := make([]int32, length)
	for i := range v {
		v[i] = int32(i)
	}
	return v
}

// copies of vectors, in other memory.
func copies(l [][]int32) [][]int32 {
	c := make([][]int32, len(l))
	for i, v := range l {
		c[i] = slices.Clone(v)
	}
	return c
}

// P2.1
func TestTheChaptersExample(t *testing.T) {
	x := New()
	put(t, x, []int32{1, 2}, 0, true)
	put(t, x, []int32{2, 1}, 1, true)
	put(t, x, []int32{1, 2}, 0, false)
	want(t, "the example", x, [][]int32{{1, 2}, {2, 1}})
}

// P2.1
func TestANewTableIsEmpty(t *testing.T) {
	want(t, "New", New(), nil)
	missing(t, New(), nil, []int32{}, []int32{0}, rising(64), rising(65))
	if New() == New() {
		t.Error("New told one table twice")
	}
}

// P2.1, R3
func TestPutOfTheEmptyVector(t *testing.T) {
	x := New()
	missing(t, x, nil, []int32{})
	put(t, x, nil, 0, true)
	put(t, x, []int32{}, 0, false)
	put(t, x, []int32{0}, 1, true)
	put(t, x, nil, 0, false)
	want(t, "nil first", x, [][]int32{{}, {0}})
	y := New()
	put(t, y, []int32{}, 0, true)
	put(t, y, nil, 0, false)
	want(t, "empty first", y, [][]int32{nil})
}

// P2.1
func TestPutOfEachLength(t *testing.T) {
	x := New()
	var l [][]int32
	for length := range 65 {
		missing(t, x, rising(length))
		put(t, x, rising(length), length, true)
		put(t, x, rising(length), length, false)
		l = append(l, rising(length))
	}
	want(t, "all lengths", x, l)
}

// P2.1
func TestPutOfOneThatIsTooLong(t *testing.T) {
	for _, l := range [][][]int32{nil, {rising(64)}, all(4, 0, 1)} {
		x := filled(t, l)
		for _, length := range []int{65, 66, 128, 129, 5000} {
			for _, v := range [][]int32{rising(length), make([]int32, length)} {
				if i, fresh, err := x.Put(v); i != 0 || fresh || err != api.ErrLong {
					t.Errorf("Put of %d numbers: %d, %v, %v", length, i, fresh, err)
				}
				missing(t, x, v)
			}
		}
		want(t, "behind an error", x, l)
		put(t, x, []int32{7}, len(l), true)
	}
}

// P2.1
func TestPutTellsVectorsApart(t *testing.T) {
	for name, l := range map[string][][]int32{
		"by order":          {{1, 2, 3}, {1, 3, 2}, {2, 1, 3}, {2, 3, 1}, {3, 1, 2}, {3, 2, 1}},
		"by length":         {{0}, {}, {0, 0}, {0, 0, 0}, {1}, {0, 1}, {1, 0}, {0, 1, 0}, {1, 0, 0}, {0, 0, 1}},
		"by sign":           {{1}, {-1}, {1, -1}, {-1, 1}, {1, 1}, {-1, -1}},
		"by great numbers":  {{math.MinInt32}, {math.MaxInt32}, {math.MinInt32 + 1}, {math.MaxInt32 - 1}, {-1}, {0}, {1}},
		"by their halves":   {{1, 0}, {1 << 16, 0}, {0, 1 << 16}, {0, 1}, {1 << 16}, {1}},
		"with the one hash": {{0, factor}, {1, 0}},
		"edges of the kind": all(3, math.MinInt32, -1, 0, math.MaxInt32),
	} {
		x := filled(t, l)
		want(t, name, x, l)
		for i, v := range copies(l) {
			put(t, x, v, i, false)
		}
		want(t, name+", again", x, l)
	}
	if hash([]int32{0, factor}) != hash([]int32{1, 0}) {
		t.Error("these should have the one hash")
	}
}

// P2.1
func TestPutTellsApartByOneNumberAlone(t *testing.T) {
	l := [][]int32{make([]int32, 64)}
	for i := range 64 {
		for _, n := range []int32{math.MinInt32, -1, 1, math.MaxInt32} {
			v := make([]int32, 64)
			v[i] = n
			l = append(l, v)
		}
	}
	want(t, "one number alone", filled(t, l), l)
}

// P2.1
func TestPutAgainInAnyOrder(t *testing.T) {
	l := all(7, -1, 0, 1)
	x := New()
	for i, v := range l {
		if x.Len() != i {
			t.Fatalf("Len: %d; want %d", x.Len(), i)
		}
		missing(t, x, v)
		put(t, x, v, i, true)
		put(t, x, l[i/2], i/2, false)
		if x.Len() != i+1 {
			t.Fatalf("Len: %d; want %d", x.Len(), i+1)
		}
	}
	for i, v := range slices.Backward(copies(l)) {
		put(t, x, v, i, false)
	}
	want(t, "in the end", x, l)
	missing(t, x, []int32{2}, []int32{0, 2}, make([]int32, 8), []int32{1, 0, -1, 1, 0, -1, 1, 0})
}

// P2.1
func TestFindLeavesTheTable(t *testing.T) {
	l := [][]int32{{1, 2}, {}, {3}}
	x := filled(t, l)
	missing(t, x, []int32{1}, []int32{2}, []int32{1, 2, 3}, []int32{2, 1}, []int32{0}, []int32{-3},
		rising(64), rising(65), make([]int32, 65), make([]int32, 5000))
	want(t, "the table", x, l)
	put(t, x, []int32{1}, 3, true)
}

// P2.1
func TestOfNil(t *testing.T) {
	var x *Table
	for _, v := range [][]int32{nil, {}, {0}, {1, 2}, rising(64)} {
		if i, fresh, err := x.Put(v); i != 0 || fresh || err != api.ErrNil {
			t.Errorf("nil: Put(%v): %d, %v, %v", v, i, fresh, err)
		}
		missing(t, x, v)
	}
	want(t, "nil", x, nil)
	missing(t, x, rising(65))
}

// P2.1, R2: ErrLong is named ahead of ErrNil.
func TestOfNilWithOneThatIsTooLong(t *testing.T) {
	var x *Table
	if i, fresh, err := x.Put(rising(65)); i != 0 || fresh || err != api.ErrLong {
		t.Errorf("nil: %d, %v, %v", i, fresh, err)
	}
}

// R1: a table that nobody made is an empty one.
func TestOfAnUnmadeTable(t *testing.T) {
	x := &Table{}
	missing(t, x, nil, []int32{1})
	want(t, "unmade", x, nil)
	put(t, x, []int32{1}, 0, true)
	want(t, "unmade, with one", x, [][]int32{{1}})
}

// R6
func TestTablesKnowNothingOfEachOther(t *testing.T) {
	x, y := New(), New()
	put(t, x, []int32{1}, 0, true)
	put(t, x, []int32{2}, 1, true)
	missing(t, y, []int32{1})
	put(t, y, []int32{2}, 0, true)
	want(t, "the one", x, [][]int32{{1}, {2}})
	want(t, "the other", y, [][]int32{{2}})
}

// P2.2
func TestAtOfItsNumberIsTheVector(t *testing.T) {
	x := New()
	for _, l := range [][][]int32{all(4, math.MinInt32, 5, math.MaxInt32), all(6, -7, 5), {rising(64), rising(63)}} {
		for _, v := range l {
			i, _, err := x.Put(v)
			if got, ok := x.At(i); err != nil || !ok || !slices.Equal(got, v) {
				t.Fatalf("At(%d): %v, %v, %v; want %v", i, got, ok, err, v)
			}
			if k, ok := x.Find(v); k != i || !ok {
				t.Fatalf("Find(%v): %d, %v; want %d", v, k, ok, i)
			}
		}
	}
}

// P2.2, R4
func TestWhatWasHandedToPutMayChange(t *testing.T) {
	l := append(all(5, 0, 1), rising(64))
	x := New()
	v := make([]int32, 0, 64)
	for i, w := range l {
		v = append(v[:0], w...)
		put(t, x, v, i, true)
		if !slices.Equal(v, w) {
			t.Fatalf("Put changed %v to %v", w, v)
		}
		for k := range v[:cap(v)] {
			v[:cap(v)][k] = -9
		}
	}
	want(t, "the table", x, l)
	missing(t, x, []int32{-9}, []int32{-9, -9})
	v = []int32{1, 1, 1}
	x.Find(v)
	if !slices.Equal(v, []int32{1, 1, 1}) {
		t.Errorf("Find changed its vector to %v", v)
	}
}

// P2.2, R4
func TestWhatAtGaveMayChange(t *testing.T) {
	l := append(all(5, 0, 1), rising(64))
	x := filled(t, l)
	for i, w := range l {
		v, _ := x.At(i)
		other, _ := x.At(i)
		// What lies behind it within its capacity must be nobody's, too.
		for k := range v[:cap(v)] {
			v[:cap(v)][k] = -9
		}
		if !slices.Equal(other, w) {
			t.Errorf("At(%d): one told vector changes with another", i)
		}
	}
	want(t, "the table", x, l)
	missing(t, x, []int32{-9})
}

// longest chain of a table.
func longest(x *Table) int {
	most := 0
	for _, i := range x.heads {
		length := 0
		for ; i != none; i = x.entries[i].next {
			length++
		}
		most = max(most, length)
	}
	return most
}

// The chapter's way: what is found by a hash isn't looked for in long chains.
func TestChainsStayShort(t *testing.T) {
	for name, of := range map[string]func(n int32) []int32{
		"small numbers":   func(n int32) []int32 { return []int32{n} },
		"even numbers":    func(n int32) []int32 { return []int32{0, n << 12} },
		"pairs":           func(n int32) []int32 { return []int32{n % 64, n / 64} },
		"digits":          func(n int32) []int32 { return []int32{n % 8, n / 8 % 8, n / 64 % 8, n / 512} },
		"zeros behind":    func(n int32) []int32 { return []int32{n, 0, 0, 0} },
		"numbers below 0": func(n int32) []int32 { return []int32{-n, n} },
		"signs": func(n int32) []int32 {
			v := make([]int32, 12)
			for i := range v {
				v[i] = (n>>i&1)*2 - 1
			}
			return v
		},
	} {
		x := New()
		for n := range int32(4096) {
			put(t, x, of(n), int(n), true)
		}
		if len(x.heads) < x.Len() || longest(x) > 12 {
			t.Errorf("%s: %d chains of %d vectors, of at most %d", name, len(x.heads), x.Len(), longest(x))
		}
	}
}
