package lasso

import (
	"math/rand/v2"
	"slices"
	"strconv"
	"testing"

	"sortilege/prop"
)

// endless is a word as the chapter speaks of it, place after place without an end: here
// it is looked at as far as each of its places comes once more.
type endless struct {
	names []string
	w     Lasso
}

// places: how many it has.
func (e endless) places() int { return len(e.w.Stem) + len(e.w.Loop) }

// place: that at which a place of the word stands, however far on.
func (e endless) place(i int) int {
	for i >= e.places() {
		i -= len(e.w.Loop)
	}
	return i
}

// truths: at which places a formula holds, by the chapter's words.
func (e endless) truths(f prop.Formula) []bool {
	var kids [][]bool
	for _, kid := range f.Kids {
		kids = append(kids, e.truths(kid))
	}
	kid := func(which int) func(int) bool {
		return func(i int) bool { return kids[which][e.place(i)] }
	}
	l := make([]bool, e.places())
	for i := range l {
		l[i] = e.holds(f, kid, i)
	}
	return l
}

// all: does it hold at all places from one on, ahead of another one?
func all(is func(int) bool, from, to int) bool {
	for i := from; i < to; i++ {
		if !is(i) {
			return false
		}
	}
	return true
}

// some: does it hold at one of them?
func some(is func(int) bool, from, to int) bool {
	return !all(func(i int) bool { return !is(i) }, from, to)
}

// holds: does a formula hold at a place, by what its kids do?
func (e endless) holds(f prop.Formula, kid func(int) func(int) bool, i int) bool {
	end := i + e.places()
	until := func() bool {
		return some(func(k int) bool { return kid(1)(k) && all(kid(0), i, k) }, i, end)
	}
	switch f.Op {
	case "true":
		return true
	case "label":
		letter, _ := Letter(e.w, i)
		return letter>>slices.Index(e.names, f.Name)%2 == 1
	case "!":
		return !kid(0)(i)
	case "&":
		return kid(0)(i) && kid(1)(i)
	case "|":
		return kid(0)(i) || kid(1)(i)
	case "=>":
		return !kid(0)(i) || kid(1)(i)
	case "X":
		return kid(0)(i + 1)
	case "F":
		return some(kid(0), i, end)
	case "G":
		return all(kid(0), i, end)
	case "U":
		return until()
	case "W":
		return until() || all(kid(0), i, end)
	case "R":
		return all(kid(1), i, end) || some(func(k int) bool { return kid(0)(k) && all(kid(1), i, k+1) }, i, end)
	}
	return false
}

// isAsDefined: do Truths and Holds tell what the chapter's words do? What holds at the
// first place is told.
func isAsDefined(t *testing.T, f prop.Formula, names []string, w Lasso) bool {
	t.Helper()
	want := endless{names, w}.truths(f)
	isSo(t, f, names, w, digits(want))
	return want[0]
}

// wordsOf: all words over a and b with so many letters in the stem and in the loop.
func wordsOf(stem, loop int) []Lasso {
	var l []Lasso
	for n := range 1 << (2 * (stem + loop)) {
		var all []int
		for range stem + loop {
			all = append(all, n%4)
			n /= 4
		}
		l = append(l, Lasso{slices.Clone(all[:stem]), slices.Clone(all[stem:])})
	}
	return l
}

// P14.1: each Op over all short words, beside the chapter's words.
func TestEachOpOverAllShortWords(t *testing.T) {
	l := nested()
	for _, op := range prefixes {
		for _, other := range betweens {
			l = append(l, of(op, of(other, a, b)), of(other, of(op, a), b), of(other, a, of(op, b)))
		}
	}
	for stem := range 3 {
		for loop := 1; loop < 4 && stem+loop < 5; loop++ {
			for i, w := range wordsOf(stem, loop) {
				for k, f := range l {
					if stem+loop < 4 || (i+k)%5 == 0 {
						isAsDefined(t, f, abc, w)
					}
				}
			}
		}
	}
}

// writer of formulas and words.
type writer struct{ rnd *rand.Rand }

// oneOf some things.
func oneOf[T any](w writer, l ...T) T { return l[w.rnd.IntN(len(l))] }

// formula of about that many Formulas, over some names.
func (w writer) formula(names []string, size int) prop.Formula {
	if size <= 1 {
		if len(names) == 0 || w.rnd.IntN(8) == 0 {
			return oneOf(w, yes, no)
		}
		return label(oneOf(w, names...))
	}
	if w.rnd.IntN(3) == 0 {
		return of(oneOf(w, prefixes...), w.formula(names, size-1))
	}
	left := w.rnd.IntN(size)
	return of(oneOf(w, betweens...), w.formula(names, left), w.formula(names, size-1-left))
}

// letters: so many, over so many names; often the one ahead once more.
func (w writer) letters(n, names int) []int {
	l := make([]int, n)
	for i := range l {
		l[i] = w.rnd.IntN(1 << names)
		if i > 0 && w.rnd.IntN(2) == 0 {
			l[i] = l[i-1]
		}
	}
	return l
}

// word over so many names, of at most so many letters.
func (w writer) word(names, most int) Lasso {
	loop := 1 + w.rnd.IntN(most)
	if w.rnd.IntN(4) == 0 {
		loop = 1
	}
	return Lasso{w.letters(w.rnd.IntN(most-loop+1), names), w.letters(loop, names)}
}

// task: names, a formula and a word of so many letters at most.
func (w writer) task(most int) ([]string, prop.Formula, Lasso) {
	names := named(w.rnd.IntN(7))
	w.rnd.Shuffle(len(names), func(i, k int) { names[i], names[k] = names[k], names[i] })
	used := names[:w.rnd.IntN(len(names)+1)]
	return names, w.formula(used, 1+w.rnd.IntN(oneOf(w, 5, 20, 60))), w.word(len(names), most)
}

// P14.1, beside the chapter's words.
func TestFormulasByChance(t *testing.T) {
	held := 0
	for i := range 4000 {
		w := writer{rand.New(rand.NewPCG(14, uint64(i)))}
		names, f, v := w.task(oneOf(w, 4, 12, 64))
		if isAsDefined(t, f, names, v) {
			held++
		}
	}
	if held < 1000 || held > 3000 {
		t.Errorf("%d held of 4000", held)
	}
}

// P14.2: a word without its first letter has the letters of the word from 1 on.
func TestWordsWithoutTheirFirstLetter(t *testing.T) {
	for i := range 2000 {
		w := writer{rand.New(rand.NewPCG(142, uint64(i)))}
		v := w.word(6, 16)
		if w.rnd.IntN(5) == 0 {
			v.Loop = nil
		}
		shifted := Shift(v)
		for k := range 40 {
			letter, is := Letter(v, k+1)
			if again, isToo := Letter(shifted, k); again != letter || isToo != is {
				t.Fatalf("Letter(%v, %d): %d, %v; of %v at %d: %d, %v", v, k+1, letter, is, shifted, k, again, isToo)
			}
		}
		if len(v.Stem) > 0 && len(shifted.Stem) != len(v.Stem)-1 || len(shifted.Loop) != len(v.Loop) {
			t.Fatalf("Shift(%v): %v", v, shifted)
		}
	}
}

// P14.3: X f of a word, and f of it without its first letter, again and again.
func TestNextOfWords(t *testing.T) {
	held := 0
	for i := range 2000 {
		w := writer{rand.New(rand.NewPCG(143, uint64(i)))}
		names, f, v := w.task(oneOf(w, 3, 10, 64))
		for range len(v.Stem) + len(v.Loop) + 2 {
			next, err := Holds(of("X", f), names, v)
			shifted := Shift(v)
			is, shiftedErr := Holds(f, names, shifted)
			if err != nil || shiftedErr != nil || next != is {
				t.Fatalf("X of %s over %q, %v: %v, %v; without its first letter %v, %v", short(f), names, v, next, err, is, shiftedErr)
			}
			if is {
				held++
			}
			v = shifted
		}
	}
	if held < 2000 {
		t.Errorf("only %d held", held)
	}
}

// unrolled: a word with some more of its letters in the stem, and the loop so many
// times in one.
func unrolled(v Lasso, more, times int) Lasso {
	for range more {
		// The loop is turned as often as a letter of it is written out.
		v = Lasso{append(slices.Clone(v.Stem), v.Loop[0]), append(slices.Clone(v.Loop[1:]), v.Loop[0])}
	}
	return Lasso{v.Stem, slices.Repeat(v.Loop, times)}
}

// P14.3: a lasso against the same one unrolled.
func TestUnrolledWords(t *testing.T) {
	for i := range 3000 {
		w := writer{rand.New(rand.NewPCG(144, uint64(i)))}
		names, f, v := w.task(oneOf(w, 2, 5, 12))
		l, err := Truths(f, names, v)
		if err != nil {
			t.Fatal(err)
		}
		long := unrolled(v, w.rnd.IntN(14), 1+w.rnd.IntN(3))
		again, err := Truths(f, names, long)
		if err != nil || len(again) != len(long.Stem)+len(long.Loop) {
			t.Fatalf("Truths of %s over %v: %v, %v", short(f), long, again, err)
		}
		for k, is := range again {
			if is != l[endless{names, v}.place(k)] {
				t.Fatalf("Truths of %s over %q, %v: %s; over %v: %s", short(f), names, v, digits(l), long, digits(again))
			}
		}
	}
}

// P14.1, P14.3: laws that tie the Ops to one another.
func TestLaws(t *testing.T) {
	for i := range 1000 {
		w := writer{rand.New(rand.NewPCG(145, uint64(i)))}
		names, f, v := w.task(10)
		g := w.formula(names, 1+w.rnd.IntN(10))
		not := func(f prop.Formula) prop.Formula { return of("!", f) }
		for k, law := range [][2]prop.Formula{
			{of("F", g), of("U", yes, g)}, {of("G", g), not(of("F", not(g)))}, {of("W", f, g), of("|", of("U", f, g), of("G", f))},
			{of("R", f, g), not(of("U", not(f), not(g)))}, {of("=>", f, g), of("|", not(f), g)}, {of("&", f, g), not(of("|", not(f), not(g)))},
			{of("U", f, g), of("|", g, of("&", f, of("X", of("U", f, g))))}, {of("R", f, g), of("&", g, of("|", f, of("X", of("R", f, g))))},
			{of("W", f, g), of("R", g, of("|", f, g))}, {of("X", not(f)), not(of("X", f))}, {no, not(yes)}, {of("&", f, not(f)), no},
		} {
			l, err := Truths(law[0], names, v)
			again, againErr := Truths(law[1], names, v)
			if err != nil || againErr != nil || !slices.Equal(l, again) {
				t.Fatalf("law %s of %s and %s over %v: %s, %v; %s, %v", strconv.Itoa(k), short(f), short(g), v, digits(l), err, digits(again), againErr)
			}
		}
	}
}
