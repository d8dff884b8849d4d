package gba

import (
	"math/rand/v2"
	"slices"
	"testing"

	"sortilege/api"
	"sortilege/lasso"
	"sortilege/nnf"
	"sortilege/prop"
)

// accepts: does an automaton accept a word? By the chapter's words: of the nodes at the
// word's places those are left, again and again, from which others of each set are come
// to.
func accepts(g GBA, w lasso.Lasso) bool {
	letters := slices.Concat(w.Stem, w.Loop)
	left := make([][]bool, len(letters))
	for i, letter := range letters {
		for _, n := range g.Nodes {
			left[i] = append(left[i], Fits(n, letter))
		}
	}
	behind := func(i int) int {
		if i+1 == len(letters) {
			return len(w.Stem)
		}
		return i + 1
	}
	sets := g.Sets
	if len(sets) == 0 {
		// Any run: it goes on and on.
		sets = [][]int{nil}
		for i := range g.Nodes {
			sets[0] = append(sets[0], i)
		}
	}
	for less := true; less; {
		less = false
		for _, set := range sets {
			come := comeTo(g, left, behind, set)
			for i := range left {
				if !slices.Equal(left[i], come[i]) {
					less = true
				}
			}
			left = come
		}
	}
	return slices.ContainsFunc(g.Init, func(n int) bool { return left[0][n] })
}

// comeTo: of the nodes that are left at a word's places those from which, by one step or
// more, one of a set is come to.
func comeTo(g GBA, left [][]bool, behind func(int) int, set []int) [][]bool {
	in := make([]bool, len(g.Nodes))
	for _, n := range set {
		in[n] = true
	}
	come := make([][]bool, len(left))
	for i := range come {
		come[i] = make([]bool, len(g.Nodes))
	}
	for more := true; more; {
		more = false
		for i := len(left) - 1; i >= 0; i-- {
			k := behind(i)
			for n := len(g.Nodes) - 1; n >= 0; n-- {
				if left[i][n] && !come[i][n] && slices.ContainsFunc(g.Nodes[n].Next, func(m int) bool {
					return left[k][m] && (in[m] || come[k][m])
				}) {
					come[i][n], more = true, true
				}
			}
		}
	}
	return come
}

// words: all with a stem and a loop of so many letters at most, over so many names.
func words(names, stem, loop int) []lasso.Lasso {
	var all []lasso.Lasso
	for _, s := range lists(1<<names, 0, stem) {
		for _, l := range lists(1<<names, 1, loop) {
			all = append(all, lasso.Lasso{Stem: s, Loop: l})
		}
	}
	return all
}

// lists of numbers below one, as long as from least to most.
func lists(below, least, most int) [][]int {
	all := [][]int{{}}
	for from := 0; len(all[len(all)-1]) < most; {
		end := len(all)
		for ; from < end; from++ {
			for i := range below {
				all = append(all, append(slices.Clone(all[from]), i))
			}
		}
	}
	return slices.DeleteFunc(all, func(l []int) bool { return len(l) < least })
}

// isOf: an automaton of a formula is right, and accepts just those of some words of which
// the formula holds.
func isOf(t *testing.T, f prop.Formula, names []string, words []lasso.Lasso) (accepted int) {
	t.Helper()
	g := built(t, f, names)
	for _, w := range words {
		holds, err := lasso.Holds(f, names, w)
		if err != nil {
			t.Fatalf("Holds of %s: %v", short(f), err)
		}
		if is := accepts(g, w); is != holds {
			t.Fatalf("Build of %s, over %v: %v: %+v", short(f), w, is, g)
		}
		if holds {
			accepted++
		}
	}
	return accepted
}

// opposite of a formula.
func opposite(t *testing.T, f prop.Formula) prop.Formula {
	t.Helper()
	g, err := nnf.Normal(f, true)
	if err != nil {
		t.Fatalf("Normal of %s: %v", short(f), err)
	}
	return g
}

// allOf: all normal formulas of each size up to one, of some labels.
func allOf(size int, labels ...prop.Formula) []prop.Formula {
	by := [][]prop.Formula{nil, append([]prop.Formula{yes, no}, labels...)}
	for n := 2; n <= size; n++ {
		var l []prop.Formula
		if n == 2 {
			for _, f := range labels {
				l = append(l, of("!", f))
			}
		}
		for _, f := range by[n-1] {
			l = append(l, of("X", f))
		}
		for left := 1; left < n-1; left++ {
			for _, f := range by[left] {
				for _, g := range by[n-1-left] {
					l = append(l, of("&", f, g), of("|", f, g), of("U", f, g), of("R", f, g))
				}
			}
		}
		by = append(by, l)
	}
	return slices.Concat(by...)
}

// P16.1, P16.3: all small formulas, and all short words.
func TestAllSmallFormulas(t *testing.T) {
	for _, c := range []struct {
		names []string
		l     []prop.Formula
		words []lasso.Lasso
	}{
		{[]string{"a"}, allOf(5, a), words(1, 2, 3)},
		{[]string{"b", "a"}, allOf(4, a, b), words(2, 1, 2)},
		{nil, allOf(5), words(0, 1, 2)},
	} {
		accepted := 0
		for _, f := range c.l {
			if g, want := built(t, f, c.names), told(f, c.names); !alike(g, want) {
				t.Fatalf("Build of %s: %+v, by the chapter's words %+v", short(f), g, want)
			}
			isLimited(t, f, c.names, len(told(f, c.names).Nodes))
			is, isnt := isOf(t, f, c.names, c.words), isOf(t, opposite(t, f), c.names, c.words)
			if is+isnt != len(c.words) {
				t.Fatalf("%s and what it isn't hold of %d and %d of %d words", short(f), is, isnt, len(c.words))
			}
			accepted += is
		}
		if accepted < len(c.l)*len(c.words)/5 {
			t.Errorf("only %d words were accepted", accepted)
		}
	}
}

// writer of formulas and words.
type writer struct{ rnd *rand.Rand }

// by chance, but always the same.
func by(seed uint64, i int) writer { return writer{rand.New(rand.NewPCG(seed, uint64(i)))} }

// oneOf some things.
func oneOf[T any](w writer, l ...T) T { return l[w.rnd.IntN(len(l))] }

// formula of so many Formulas, but for those that ! makes more, of so many labels.
func (w writer) formula(labels, size int) prop.Formula {
	if size <= 1 {
		if w.rnd.IntN(8) == 0 {
			return prop.Formula{Op: oneOf(w, "true", "false"), Pos: w.rnd.IntN(99)}
		}
		f := prop.Formula{Op: "label", Name: string(rune('a' + w.rnd.IntN(labels))), Pos: w.rnd.IntN(99)}
		if w.rnd.IntN(3) == 0 {
			return of("!", f)
		}
		return f
	}
	if size == 2 || w.rnd.IntN(4) == 0 {
		return of("X", w.formula(labels, size-1))
	}
	left := 1 + w.rnd.IntN(size-2)
	return of(oneOf(w, "&", "|", "U", "R"), w.formula(labels, left), w.formula(labels, size-1-left))
}

// word over so many names.
func (w writer) word(names int) lasso.Lasso {
	letters := func(n int) []int {
		l := make([]int, n)
		for i := range l {
			l[i] = w.rnd.IntN(1 << names)
		}
		return l
	}
	return lasso.Lasso{Stem: letters(w.rnd.IntN(5)), Loop: letters(1 + w.rnd.IntN(5))}
}

// names: those of so many labels, and perhaps some more, in some order.
func (w writer) names(labels int) []string {
	names := []string{"a", "b", "c", "d", "e", "f"}[:labels+w.rnd.IntN(7-labels)]
	names = slices.Clone(names)
	w.rnd.Shuffle(len(names), func(i, k int) { names[i], names[k] = names[k], names[i] })
	return names
}

// P16.1: the nodes that come up, by the chapter's words.
func TestNodesByChance(t *testing.T) {
	many := 0
	for i := range 3000 {
		w := by(16, i)
		labels := 1 + w.rnd.IntN(oneOf(w, 2, 6))
		f, names := w.formula(labels, 1+w.rnd.IntN(20)), w.names(labels)
		g := built(t, f, names)
		if len(g.Nodes) > 100 {
			continue
		}
		if want := told(placeless(f), names); !alike(g, want) {
			t.Fatalf("Build of %s: %+v, by the chapter's words %+v", short(f), g, want)
		}
		if len(g.Nodes) > 20 {
			many++
		}
	}
	if many < 300 {
		t.Errorf("only %d had many nodes", many)
	}
}

// P16.1
func TestLimitsByChance(t *testing.T) {
	for i := range 500 {
		w := by(161, i)
		f, names := w.formula(2, 1+w.rnd.IntN(16)), w.names(2)
		g, err := Build(f, names, 1000)
		if err != nil {
			continue
		}
		isLimited(t, f, names, len(g.Nodes))
	}
}

// P16.1, P16.3, with the help of package lasso.
func TestWordsByChance(t *testing.T) {
	accepted, refused, many := 0, 0, 0
	for i := range 1500 {
		w := by(162, i)
		labels := 1 + w.rnd.IntN(3)
		f, names := w.formula(labels, 1+w.rnd.IntN(16)), w.names(labels)
		if n := max(len(built(t, f, names).Nodes), len(built(t, opposite(t, f), names).Nodes)); n > 200 {
			continue
		} else if n > 20 {
			many++
		}
		var l []lasso.Lasso
		for range 12 {
			l = append(l, w.word(len(names)))
		}
		is, isnt := isOf(t, f, names, l), isOf(t, opposite(t, f), names, l)
		if is+isnt != len(l) {
			t.Fatalf("%s and what it isn't hold of %d and %d of %d words", short(f), is, isnt, len(l))
		}
		accepted, refused = accepted+is, refused+isnt
	}
	if accepted < 4000 || refused < 4000 || many < 200 {
		t.Errorf("%d accepted, %d refused, %d with many nodes", accepted, refused, many)
	}
}

// P16.3: longer formulas are built right, or have too many nodes.
func TestLongFormulasByChance(t *testing.T) {
	right := 0
	for i := range 150 {
		w := by(163, i)
		f, names := w.formula(6, 1+w.rnd.IntN(oneOf(w, 40, 400, 2500))), w.names(6)
		if g, err := Build(f, names, 4096); err == nil {
			right++
			if Check(g) != nil {
				t.Fatalf("Build of %s isn't right", short(f))
			}
		} else {
			fails(t, f, names, 4096, api.ErrAuto)
		}
	}
	if right < 15 {
		t.Errorf("only %d had few enough nodes", right)
	}
}
