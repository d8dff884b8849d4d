package lasso

import (
	"math"
	"reflect"
	"slices"
	"testing"

	"sortilege/api"
	"sortilege/prop"
)

// same: are two words of the same letters, a list without letters being nil or empty?
func same(w, v Lasso) bool {
	return slices.Equal(w.Stem, v.Stem) && slices.Equal(w.Loop, v.Loop)
}

// copied: the same word in other memory.
func copied(w Lasso) Lasso {
	return Lasso{slices.Clone(w.Stem), slices.Clone(w.Loop)}
}

// P14.2
func TestShift(t *testing.T) {
	for _, row := range []struct{ w, want Lasso }{
		{Lasso{[]int{5}, []int{1, 2}}, Lasso{nil, []int{1, 2}}},
		{Lasso{[]int{5}, []int{1}}, Lasso{nil, []int{1}}},
		{Lasso{[]int{5, 6, 7}, []int{1, 2}}, Lasso{[]int{6, 7}, []int{1, 2}}},
		{Lasso{[]int{5, 5}, []int{5}}, Lasso{[]int{5}, []int{5}}},
		{Lasso{nil, []int{1}}, Lasso{nil, []int{1}}},
		{Lasso{[]int{}, []int{1, 2}}, Lasso{nil, []int{2, 1}}},
		{Lasso{nil, []int{1, 2, 3, 4}}, Lasso{nil, []int{2, 3, 4, 1}}},
		{Lasso{nil, []int{1, 1, 2}}, Lasso{nil, []int{1, 2, 1}}},
		// Without a loop.
		{Lasso{}, Lasso{}}, {Lasso{[]int{}, []int{}}, Lasso{}}, {Lasso{[]int{5}, nil}, Lasso{}}, {Lasso{[]int{5, 6}, []int{}}, Lasso{[]int{6}, nil}},
		// Letters of no names.
		{Lasso{[]int{-1, math.MinInt}, []int{math.MaxInt, 64}}, Lasso{[]int{math.MinInt}, []int{math.MaxInt, 64}}},
		{Lasso{nil, []int{math.MaxInt, -1}}, Lasso{nil, []int{-1, math.MaxInt}}},
	} {
		if w := Shift(row.w); !same(w, row.want) {
			t.Errorf("Shift(%v): %v; want %v", row.w, w, row.want)
		}
	}
	long := Lasso{make([]int, 70000), make([]int, 70000)}
	for i := range long.Loop {
		long.Stem[i], long.Loop[i] = -i, i
	}
	if w := Shift(long); !slices.Equal(w.Stem, long.Stem[1:]) || !slices.Equal(w.Loop, long.Loop) {
		t.Errorf("Shift of a long word: %s", shape(w))
	}
	long.Stem = nil
	if w := Shift(long); len(w.Stem) != 0 || len(w.Loop) != 70000 || w.Loop[0] != 1 || w.Loop[69998] != 69999 || w.Loop[69999] != 0 {
		t.Errorf("Shift of a long loop: %s", shape(w))
	}
}

// P14.2
func TestLetter(t *testing.T) {
	for _, row := range []struct {
		w      Lasso
		i      int
		letter int
		is     bool
	}{
		{Lasso{[]int{5, 6}, []int{1, 2, 3}}, 0, 5, true}, {Lasso{[]int{5, 6}, []int{1, 2, 3}}, 1, 6, true}, {Lasso{[]int{5, 6}, []int{1, 2, 3}}, 2, 1, true}, {Lasso{[]int{5, 6}, []int{1, 2, 3}}, 3, 2, true},
		{Lasso{[]int{5, 6}, []int{1, 2, 3}}, 4, 3, true}, {Lasso{[]int{5, 6}, []int{1, 2, 3}}, 5, 1, true}, {Lasso{[]int{5, 6}, []int{1, 2, 3}}, 7, 3, true}, {Lasso{[]int{5, 6}, []int{1, 2, 3}}, 8, 1, true}, {Lasso{[]int{5, 6}, []int{1, 2, 3}}, 3000003, 2, true},
		{Lasso{nil, []int{7, 8}}, 0, 7, true}, {Lasso{[]int{}, []int{7, 8}}, 1, 8, true}, {Lasso{nil, []int{7, 8}}, 2, 7, true}, {Lasso{nil, []int{9}}, 0, 9, true}, {Lasso{nil, []int{9}}, 1, 9, true}, {Lasso{[]int{0}, []int{0}}, 1, 0, true},
		// The greatest number, which is 1 more than 2 and 3 go into evenly, and is odd.
		{Lasso{nil, []int{9}}, math.MaxInt, 9, true}, {Lasso{nil, []int{7, 8}}, math.MaxInt, 8, true}, {Lasso{[]int{5}, []int{7, 8}}, math.MaxInt, 7, true}, {Lasso{nil, []int{1, 2, 3}}, math.MaxInt, 2, true}, {Lasso{[]int{5, 6}, []int{1, 2, 3}}, math.MaxInt, 3, true},
		// Below 0.
		{Lasso{[]int{5, 6}, []int{1, 2, 3}}, -1, 0, false}, {Lasso{[]int{5, 6}, []int{1, 2, 3}}, -2, 0, false}, {Lasso{nil, []int{1, 2, 3}}, -1, 0, false}, {Lasso{nil, []int{1, 2, 3}}, -3, 0, false}, {Lasso{[]int{5, 6}, []int{1, 2, 3}}, math.MinInt, 0, false}, {Lasso{nil, []int{1}}, math.MinInt, 0, false},
		{Lasso{}, -1, 0, false}, {Lasso{}, math.MinInt, 0, false}, {Lasso{[]int{5}, nil}, -1, 0, false},
		// An empty loop.
		{Lasso{}, 0, 0, false}, {Lasso{}, 1, 0, false}, {Lasso{}, math.MaxInt, 0, false}, {Lasso{[]int{5, 6}, nil}, 0, 5, true}, {Lasso{[]int{5, 6}, []int{}}, 1, 6, true}, {Lasso{[]int{5, 6}, nil}, 2, 0, false}, {Lasso{[]int{5, 6}, []int{}}, 3, 0, false}, {Lasso{[]int{5, 6}, nil}, math.MaxInt, 0, false},
		// Letters of no names.
		{Lasso{[]int{-1}, []int{math.MinInt}}, 0, -1, true}, {Lasso{[]int{-1}, []int{math.MinInt}}, 9, math.MinInt, true},
	} {
		if letter, is := Letter(row.w, row.i); letter != row.letter || is != row.is {
			t.Errorf("Letter(%v, %d): %d, %v; want %d, %v", row.w, row.i, letter, is, row.letter, row.is)
		}
	}
}

// room: a list with what it may grow to.
func room[T any](l []T) []T { return l[:cap(l)] }

// spoil a list, and what it may grow to.
func spoil[T any](l []T, item T) {
	for i := range room(l) {
		room(l)[i] = item
	}
}

// spare: a list with room behind it, as pieces of others have.
func spare[T any](l []T, more ...T) []T {
	return slices.Concat(l, more)[:len(l)]
}

// R4
func TestShiftSharesNothing(t *testing.T) {
	for _, w := range []Lasso{{[]int{1, 2, 3}, []int{4, 5}}, {[]int{1}, []int{4}}, {nil, []int{4, 5, 6}}, {nil, []int{4}}, {[]int{1, 2}, nil}, {[]int{1}, nil}, {}} {
		in := Lasso{spare(w.Stem, 70, 71), spare(w.Loop, 72, 73)}
		stem, loop := slices.Clone(room(in.Stem)), slices.Clone(room(in.Loop))
		first, second := Shift(in), Shift(in)
		want := copied(first)
		spoil(second.Stem, 99)
		if !slices.Equal(second.Loop, want.Loop) {
			t.Errorf("Shift(%v): its stem lies in its loop", w)
		}
		spoil(second.Loop, 98)
		if !same(in, w) || !slices.Equal(room(in.Stem), stem) || !slices.Equal(room(in.Loop), loop) {
			t.Errorf("what was handed in became %v of %v", in, w)
		}
		spoil(in.Stem, 97)
		spoil(in.Loop, 96)
		if !same(first, want) {
			t.Errorf("Shift(%v) became %v", w, first)
		}
	}
}

// nested: formulas of each Op, some of which tell what a kid does.
func nested() []prop.Formula {
	l := []prop.Formula{yes, no, a, b}
	for _, op := range prefixes {
		l = append(l, of(op, a), of(op, of(op, b)))
	}
	for _, op := range betweens {
		l = append(l, of(op, a, b), of(op, b, a), of(op, a, a), of(op, of(op, yes, a), of("X", no)))
	}
	return l
}

// cloned: the same formula in other memory, with room behind its kids.
func cloned(f prop.Formula) prop.Formula {
	var kids []prop.Formula
	for _, kid := range f.Kids {
		kids = append(kids, cloned(kid))
	}
	if kids != nil {
		f.Kids = spare(kids, of("spare"))
	}
	return f
}

// R4, R6: what is handed in stays, what is told is the caller's, and is told again.
func TestNothingIsChangedOrKept(t *testing.T) {
	w := word("a b ab .|. a b ab")
	for _, g := range nested() {
		f, names, in := cloned(g), spare(abc, "d"), Lasso{spare(w.Stem, 9), spare(w.Loop, 9)}
		if err := Check(names, in); err != nil {
			t.Fatal(err)
		}
		before := slices.Concat(room(in.Stem), room(in.Loop))
		first, err := Truths(f, names, in)
		if err != nil {
			t.Fatal(err)
		}
		want := digits(first)
		second, err := Truths(f, names, in)
		if err != nil || digits(second) != want {
			t.Fatalf("Truths of %s: %s, and then %s, %v", short(f), want, digits(second), err)
		}
		for _, is := range []bool{false, true} {
			spoil(second, is)
			if digits(first) != want {
				t.Fatalf("Truths of %s: two answers share memory", short(f))
			}
			isSo(t, f, names, in, want)
		}
		if !reflect.DeepEqual(f, cloned(g)) || !slices.Equal(names[:4], []string{"a", "b", "c", "d"}) || !slices.Equal(slices.Concat(room(in.Stem), room(in.Loop)), before) {
			t.Errorf("what was handed in became %v, %q, %v", f, names, in)
		}
		spoil(names, "z")
		spoil(in.Stem, 0)
		spoil(in.Loop, 0)
		spoil(f.Kids, no)
		if digits(first) != want {
			t.Errorf("Truths of %s became %s", short(g), digits(first))
		}
	}
}

// R4: a call that fails changes nothing, either.
func TestNothingIsChangedBesideErrors(t *testing.T) {
	names, w := []string{"b", "a", "b"}, word("a|b a")
	f := of("U", label("z"), of("none", b, a))
	for range 2 {
		fails(t, f, names, w, api.ErrArg)
		fails(t, f, names[:2], w, api.ErrArg)
		fails(t, f.Kids[0], names[:2], w, api.ErrName)
	}
	if !slices.Equal(names, []string{"b", "a", "b"}) || !same(w, word("a|b a")) || !reflect.DeepEqual(f, of("U", label("z"), of("none", b, a))) {
		t.Errorf("what was handed in became %v, %q, %v", f, names, w)
	}
}
