package lasso

import (
	"math"
	"slices"
	"strconv"
	"strings"
	"testing"

	"sortilege/api"
	"sortilege/prop"
)

// The Ops with no kid, with one and with two.
var (
	atoms    = []string{"true", "false", "label"}
	prefixes = []string{"!", "X", "F", "G"}
	betweens = []string{"&", "|", "=>", "U", "W", "R"}
)

// ends of the numbers that no letter is.
var ends = []int{math.MinInt, math.MinInt + 1, -64, -1, 64, 65, 1 << 31, 1 << 32, math.MaxInt}

// of and label: formulas without a place.
func of(op string, kids ...prop.Formula) prop.Formula { return prop.Formula{Op: op, Kids: kids} }
func label(s string) prop.Formula                     { return prop.Formula{Op: "label", Name: s} }

// Some of them, for short.
var (
	yes = of("true")
	no  = of("false")
	a   = label("a")
	b   = label("b")
)

// abc are the names of most words here.
var abc = []string{"a", "b", "c"}

// read a formula, in which labels stand as 'a rather than in their signs.
func read(t *testing.T, s string) prop.Formula {
	t.Helper()
	for _, name := range abc {
		s = strings.ReplaceAll(s, "'"+name, `"`+name+`"`)
	}
	f, err := prop.Parse(s, 64)
	if err != nil {
		t.Fatalf("%s: %v", s, err)
	}
	return f
}

// word: the letters of a text over abc, a dot where nothing holds, with | ahead of the
// loop.
func word(s string) Lasso {
	stem, loop, _ := strings.Cut(s, "|")
	return Lasso{letters(stem), letters(loop)}
}

// letters of a text, with blanks between.
func letters(s string) []int {
	var l []int
	for _, field := range strings.Fields(s) {
		n := 0
		for i, name := range abc {
			if strings.Contains(field, name) {
				n += 1 << i
			}
		}
		l = append(l, n)
	}
	return l
}

// digits: truths as a text.
func digits(l []bool) string {
	s := []byte(strings.Repeat("0", len(l)))
	for i, is := range l {
		if is {
			s[i] = '1'
		}
	}
	return string(s)
}

// short: a formula as it may be shown.
func short(f prop.Formula) string {
	s := prop.Print(f)
	if len(s) > 80 {
		return s[:80] + " and on, of " + strconv.Itoa(len(s)) + " bytes"
	}
	return s
}

// shape of a word, as it may be shown.
func shape(w Lasso) string {
	return strconv.Itoa(len(w.Stem)) + " and " + strconv.Itoa(len(w.Loop)) + " letters"
}

// named: so many names that differ.
func named(n int) []string {
	l := make([]string, n)
	for i := range l {
		l[i] = "n" + strconv.Itoa(i)
	}
	return l
}

// isRightFor: all calls take a word for one that is right.
func isRightFor(t *testing.T, what string, names []string, w Lasso) {
	t.Helper()
	if err := Check(names, w); err != nil {
		t.Errorf("%s: Check: %v", what, err)
	}
	n := len(w.Stem) + len(w.Loop)
	if l, err := Truths(yes, names, w); err != nil || digits(l) != strings.Repeat("1", n) {
		t.Errorf("%s: Truths: %v, %v", what, l, err)
	}
	if is, err := Holds(yes, names, w); err != nil || !is {
		t.Errorf("%s: Holds: %v, %v", what, is, err)
	}
	fails(t, label("nowhere"), names, w, api.ErrName)
}

// isWrongFor: all calls refuse a word, whatever the formula is.
func isWrongFor(t *testing.T, what string, names []string, w Lasso) {
	t.Helper()
	if err := Check(names, w); err != error(api.ErrArg) {
		t.Errorf("%s: Check: %v", what, err)
	}
	for _, f := range []prop.Formula{yes, label("nowhere"), of("none"), {}} {
		fails(t, f, names, w, api.ErrArg)
	}
}

// fails: nothing is told but an error.
func fails(t *testing.T, f prop.Formula, names []string, w Lasso, errno api.Errno) {
	t.Helper()
	if l, err := Truths(f, names, w); len(l) != 0 || err != error(errno) {
		t.Errorf("Truths of %s over %q, %s: %v, %v; want %d", short(f), names, shape(w), l, err, errno)
	}
	if is, err := Holds(f, names, w); is || err != error(errno) {
		t.Errorf("Holds of %s over %q, %s: %v, %v; want %d", short(f), names, shape(w), is, err, errno)
	}
}

// isSo: a formula holds at these places.
func isSo(t *testing.T, f prop.Formula, names []string, w Lasso, want string) {
	t.Helper()
	l, err := Truths(f, names, w)
	if err != nil || digits(l) != want {
		t.Errorf("Truths of %s over %q, %v: %s, %v; want %s", short(f), names, w, digits(l), err, want)
	}
	if is, err := Holds(f, names, w); err != nil || is != (want[0] == '1') {
		t.Errorf("Holds of %s over %q, %v: %v, %v; want %s", short(f), names, w, is, err, want)
	}
}

// P14.1
func TestTheChaptersExample(t *testing.T) {
	w := Lasso{Loop: []int{0, 1}}
	isRightFor(t, "the example", []string{"a"}, w)
	isSo(t, read(t, "G F 'a"), []string{"a"}, w, "11")
	isSo(t, read(t, "G 'a"), []string{"a"}, w, "00")
	isSo(t, read(t, "F 'a"), []string{"a"}, w, "11")
}

// P14.1
func TestCheckOfHowManyNames(t *testing.T) {
	w := Lasso{Stem: []int{0}, Loop: []int{0, 0}}
	isRightFor(t, "nil names", nil, w)
	isRightFor(t, "no names", []string{}, w)
	for n := range 7 {
		isRightFor(t, strconv.Itoa(n)+" names", named(n), w)
	}
	for _, n := range []int{7, 8, 9, 62, 63, 64, 65, 128, 10000} {
		isWrongFor(t, strconv.Itoa(n)+" names", named(n), w)
		isWrongFor(t, strconv.Itoa(n)+" names, all one", slices.Repeat([]string{"x"}, n), w)
	}
}

// P14.1
func TestCheckOfNamesThatDiffer(t *testing.T) {
	w := Lasso{Loop: []int{1, 0}}
	for _, l := range [][]string{{"", "a"}, {"a", "A", "aa", " a", "a ", "a\x00"}, {"\xff", "\xfe", "ü", "u"}, {"c", "b", "a"}, {"true", "U", "label"}, {"2", "1", "4", "3", "6", "5"}} {
		isRightFor(t, strconv.Quote(l[0])+" and others that differ", l, w)
		for i := range l {
			for k := range l {
				if i != k {
					two := slices.Clone(l)
					two[i] = two[k]
					isWrongFor(t, strconv.Quote(two[i])+" twice", two, w)
				}
			}
		}
	}
	isRightFor(t, "an empty name", []string{""}, w)
	isWrongFor(t, "an empty name twice", []string{"", ""}, w)
	isWrongFor(t, "a name three times", []string{"x", "x", "x"}, w)
}

// P14.1
func TestCheckOfEmptyLoops(t *testing.T) {
	for n := range 7 {
		for _, stem := range [][]int{nil, {}, {0}, {0, 0}, make([]int, 63), make([]int, 64), make([]int, 65), {-1}, {1 << n}} {
			isWrongFor(t, "a nil loop", named(n), Lasso{Stem: stem})
			isWrongFor(t, "an empty loop", named(n), Lasso{Stem: stem, Loop: []int{}})
		}
	}
	isRightFor(t, "a nil stem", nil, Lasso{Loop: []int{0}})
	isRightFor(t, "an empty stem", nil, Lasso{Stem: []int{}, Loop: []int{0}})
}

// P14.1
func TestCheckOfHowManyLetters(t *testing.T) {
	for stem := range 66 {
		for loop := 1; loop < 67; loop++ {
			w := Lasso{Stem: make([]int, stem), Loop: make([]int, loop)}
			if stem+loop <= 64 {
				isRightFor(t, shape(w), abc, w)
			} else {
				isWrongFor(t, shape(w), abc, w)
			}
		}
	}
	for _, n := range []int{66, 127, 128, 256, 100000} {
		isWrongFor(t, "a long stem", abc, Lasso{Stem: make([]int, n), Loop: []int{0}})
		isWrongFor(t, "a long loop", abc, Lasso{Loop: make([]int, n)})
		isWrongFor(t, "both long", nil, Lasso{Stem: make([]int, n), Loop: make([]int, n)})
	}
}

// P14.1
func TestCheckOfLetters(t *testing.T) {
	for n := range 7 {
		greatest := 1<<n - 1
		for _, letter := range append([]int{0, greatest / 2, greatest - 1, greatest, greatest + 1, greatest + 2, 2*greatest + 1}, ends...) {
			for place := range 5 {
				w := Lasso{Stem: make([]int, 2), Loop: make([]int, 3)}
				if place < 2 {
					w.Stem[place] = letter
				} else {
					w.Loop[place-2] = letter
				}
				what := strconv.Itoa(n) + " names, the letter " + strconv.Itoa(letter) + " at " + strconv.Itoa(place)
				if letter >= 0 && letter <= greatest {
					isRightFor(t, what, named(n), w)
				} else {
					isWrongFor(t, what, named(n), w)
				}
			}
		}
		full := slices.Repeat([]int{greatest}, 32)
		isRightFor(t, "the greatest letter alone", named(n), Lasso{Stem: full, Loop: full})
	}
}

// P14.1: of each Op, by hand.
func TestEachOp(t *testing.T) {
	// Words with a stem and without, with a loop of one letter and of several.
	for _, w := range []string{"|a", "|a b", "a|.", ". ab|b a c"} {
		n := len(word(w).Stem) + len(word(w).Loop)
		isSo(t, yes, abc, word(w), strings.Repeat("1", n))
		isSo(t, no, abc, word(w), strings.Repeat("0", n))
	}
	for _, row := range []struct{ f, w, want string }{
		{"'a", "|a", "1"}, {"'a", "|b", "0"}, {"'b", "a b|ab c bc", "01101"}, {"'c", "a b|ab c bc", "00011"}, {"'c", "|abc .", "10"},
		{"!'a", "|a", "0"}, {"!'a", "|.", "1"}, {"!'a", "a b|. ab", "0110"}, {"!!'a", "a b|. ab", "1001"},
		{"'a & 'b", "|ab", "1"}, {"'a & 'b", ". a|b ab", "0001"}, {"'a | 'b", ". a|b ab", "0111"}, {"'a => 'b", ". a|b ab", "1011"}, {"'a | 'b", "|.", "0"}, {"'a => 'b", "|a", "0"}, {"'b => 'a", ". a|b ab", "1101"},
		// X at the last place looks at the loop's first one.
		{"X 'a", "|a", "1"}, {"X 'a", "|.", "0"}, {"X 'a", "|a .", "01"}, {"X 'a", "a|. .", "000"}, {"X 'a", ". a|. b", "1000"}, {"X 'a", ".|a .", "101"}, {"X 'a", "a .|b . a", "00010"}, {"X 'a", "a .|a . .", "01001"},
		{"X X 'a", "a .|a . .", "10010"}, {"X X X 'a", "a .|a . .", "00100"}, {"X !'a", "|a .", "10"}, {"!X 'a", "|a .", "10"},
		{"F 'a", "|a", "1"}, {"F 'a", "|.", "0"}, {"F 'a", "a|.", "10"}, {"F 'a", ". a . |. .", "11000"}, {"F 'a", ". .|. a .", "11111"},
		{"G 'a", "|a", "1"}, {"G 'a", "|.", "0"}, {"G 'a", ".|a", "01"}, {"G 'a", "a . a|a a", "00111"}, {"G 'a", "a a|a . a", "00000"},
	} {
		isSo(t, read(t, row.f), abc, word(row.w), row.want)
	}
}

// P14.1: what is met at once, further on, only beyond the last place, and never.
func TestUntilsThatAreMet(t *testing.T) {
	for _, row := range []struct{ w, u, weak, release string }{
		// At once: of R where both hold.
		{"|b", "1", "1", "1"}, {"|ab", "1", "1", "1"}, {"b|.", "10", "10", "00"}, {"ab|.", "10", "10", "10"}, {".|b", "01", "01", "01"}, {".|ab .", "010", "010", "010"},
		// Further on.
		{"a a|b .", "1110", "1110", "0000"}, {"a a|b a", "1111", "1111", "0000"}, {"b b|ab .", "1110", "1110", "1110"}, {"a . a|b .", "00110", "00110", "00000"},
		// Beyond the last place.
		{"|a b . a", "1101", "1101", "0000"}, {"|b . a a", "1011", "1011", "0000"}, {"a|b . a", "1101", "1101", "0000"}, {"|ab . b b", "1011", "1011", "1011"}, {".|ab . b", "0101", "0101", "0101"}, {".|a b . a a", "011011", "011011", "000000"}, {"|b ab . b b", "11011", "11011", "11011"},
		// Never.
		{"|.", "0", "0", "0"}, {"|a", "0", "1", "0"}, {"a|a a", "000", "111", "000"}, {"a .|a", "000", "001", "000"}, {"a|a . a", "0000", "0000", "0000"}, {"|b b", "11", "11", "11"}, {". b|b b", "0111", "0111", "0111"}, {"b|a .", "100", "100", "000"},
		// Now and then.
		{"b|b .", "110", "110", "000"}, {"|. a", "00", "00", "00"}, {"|a b", "11", "11", "00"}, {"a b .|a", "1100", "1101", "0000"},
	} {
		isSo(t, read(t, "'a U 'b"), abc, word(row.w), row.u)
		isSo(t, read(t, "'a W 'b"), abc, word(row.w), row.weak)
		isSo(t, read(t, "'a R 'b"), abc, word(row.w), row.release)
	}
}

// P14.1
func TestFormulasInOneAnother(t *testing.T) {
	for _, row := range []struct{ f, w, want string }{
		{"G F 'a", "|a .", "11"}, {"G F 'a", "a a|.", "000"}, {"G F 'a", ". .|. . a", "11111"}, {"G F 'a", "|.", "0"},
		{"F G 'a", "|a .", "00"}, {"F G 'a", ". .|a", "111"}, {"F G 'a", ". a .|a a", "11111"}, {"F G 'a", "a a|a . a", "00000"},
		{"F G F 'a", "a|. a", "111"}, {"G F G 'a", "a|. a", "000"}, {"G F G 'a", ".|a", "11"}, {"F F 'a", "a|.", "10"}, {"G G 'a", ".|a", "01"},
		{"G ('a => F 'b)", "a|b", "11"}, {"G ('a => F 'b)", "b a|a", "000"}, {"G ('a => F 'b)", "a|. a b", "1111"}, {"G ('a => X 'b)", "a b|a b", "1111"}, {"G ('a => X 'b)", "a a|b", "011"},
		{"F ('a & X 'b)", "b|b . a", "1111"}, {"F ('a & X 'b)", "a b|. b . a", "100000"}, {"X G 'a", ". .|a", "011"}, {"X F 'a", "a a|.", "100"}, {"F X 'a", "a a|.", "100"},
		// One label in several places.
		{"'a & !'a", "a .|. a", "0000"}, {"'a | !'a", "a .|. a", "1111"}, {"'a U 'a", "a .|. a", "1001"}, {"'a R 'a", "a .|. a", "1001"}, {"'a W 'a", "a .|. a", "1001"}, {"'a & X 'a", "a a|. a", "1000"}, {"'a & X 'a", "a .|a . a", "00001"}, {"'a => G 'a", ". a . a|a", "10111"},
		{"!'a U 'a", ". .|a .", "1111"}, {"'a U !'a", "|a", "0"}, {"'a W !'a", "|a a", "11"}, {"'a R !'a", ". a|.", "001"}, {"!'a R 'a", ". a|a", "011"}, {"X 'a U 'a", "|. a", "11"}, {"F 'a & F !'a", "a|.", "10"}, {"G 'a | G !'a", "a .|.", "011"},
		// Until in until, on each side.
		{"('a U 'b) U 'c", "a b|c", "111"}, {"('a U 'b) U 'c", "a .|c", "001"}, {"'a U 'b U 'c", "a b|c", "111"}, {"'a U 'b U 'c", "b a|c", "011"}, {"('a W 'b) W 'c", "|a", "1"}, {"'a R 'b R 'c", "c bc|abc .", "1110"}, {"('a R 'b) R 'c", "c c|bc", "111"}, {"!('a U 'b) & 'a", "|a a", "11"},
	} {
		isSo(t, read(t, row.f), abc, word(row.w), row.want)
	}
}

// P14.1: a label is found by its name, at whatever place this stands.
func TestLabelsAtOtherPlaces(t *testing.T) {
	l := named(6)
	w := Lasso{Stem: []int{1, 2, 4, 8}, Loop: []int{16, 32, 0, 63}}
	for i := range l {
		turned := slices.Concat(l[i:], l[:i])
		for place, name := range turned {
			want := []byte("00000001")
			want[place] = '1'
			isSo(t, label(name), turned, w, string(want))
		}
	}
	isSo(t, label("b"), []string{"b", "a"}, Lasso{Loop: []int{1, 2}}, "10")
	isSo(t, label("b"), []string{"a", "b"}, Lasso{Loop: []int{1, 2}}, "01")
	isSo(t, of("U", b, a), []string{"b", "a"}, Lasso{Stem: []int{1, 0}, Loop: []int{1, 2}}, "0011")
	for _, name := range []string{"", " ", "true", "label", "U", "\xff", "a\x00", `"`} {
		isSo(t, label(name), []string{"x", name}, Lasso{Stem: []int{3, 1}, Loop: []int{2}}, "101")
	}
}

// P14.1
func TestNamesThatArentThere(t *testing.T) {
	w := word(". a|b ab")
	ab := []string{"a", "b"}
	for _, name := range []string{"", "c", "A", "aa", " a", "a ", "ab", "a\x00", "true", "\"a\""} {
		f := label(name)
		fails(t, f, ab, w, api.ErrName)
		fails(t, f, nil, Lasso{Loop: []int{0}}, api.ErrName)
		// Wherever it stands, and even where it doesn't matter.
		for _, op := range prefixes {
			fails(t, of(op, f), ab, w, api.ErrName)
			fails(t, of(op, of("X", of(op, f))), ab, w, api.ErrName)
		}
		for _, op := range betweens {
			fails(t, of(op, f, a), ab, w, api.ErrName)
			fails(t, of(op, yes, f), ab, w, api.ErrName)
			fails(t, of(op, no, of(op, a, of("!", f))), ab, w, api.ErrName)
		}
	}
	fails(t, label("a"), []string{"b", "A"}, word("|."), api.ErrName)
	// A name counts of labels alone.
	for _, f := range []prop.Formula{{Op: "true", Name: "c"}, {Op: "|", Name: "c", Kids: []prop.Formula{{Op: "G", Name: "zzz", Kids: []prop.Formula{yes}}, b}}} {
		isSo(t, f, ab, w, "1111")
	}
}

// around: a formula in formulas, at the top, deep within, first and last.
func around(f prop.Formula) []prop.Formula {
	l := []prop.Formula{f, of("!", f), of("X", of("F", of("G", f)))}
	for _, op := range betweens {
		l = append(l, of(op, f, yes), of(op, a, f), of(op, of(op, of("!", a), of("X", f)), b))
	}
	deep := f
	for range 1000 {
		deep = of("X", deep)
	}
	return append(l, deep, of("&", no, of("|", yes, deep)))
}

// P14.1
func TestOpsThatAreNone(t *testing.T) {
	for _, op := range []string{"", " ", "True", "TRUE", "not", "~", "x", "f", "u", "M", "XX", "X ", " X", "GF", "Label", "labels", "name", "num", "&&", "||", "->", "<=>", "=", "(", "?", "true ", "\x00", "\xff", strings.Repeat("X", 9999)} {
		for kids := range 4 {
			f := prop.Formula{Op: op, Name: "a", Kids: slices.Repeat([]prop.Formula{a}, kids)}
			for _, g := range around(f) {
				fails(t, g, abc, word("a|b c"), api.ErrArg)
			}
		}
	}
	fails(t, prop.Formula{}, nil, word("|."), api.ErrArg)
	fails(t, of("&", make([]prop.Formula, 2)...), nil, word("|."), api.ErrArg)
}

// P14.1
func TestOtherKids(t *testing.T) {
	for kids, ops := range [][]string{atoms, prefixes, betweens} {
		for _, op := range ops {
			for n := range 5 {
				f := prop.Formula{Op: op, Name: "a", Kids: slices.Repeat([]prop.Formula{a}, n)}
				for _, g := range around(f) {
					if n != kids {
						fails(t, g, abc, word("a|b c"), api.ErrArg)
					} else if l, err := Truths(g, abc, word("a|b c")); err != nil || len(l) != 3 {
						t.Errorf("Truths of %s: %v, %v", short(g), l, err)
					}
				}
			}
			// An empty list, and a nil one.
			for _, l := range [][]prop.Formula{nil, {}} {
				f := prop.Formula{Op: op, Name: "a", Kids: l}
				if _, err := Truths(f, abc, word("|a")); (err == nil) != (kids == 0) {
					t.Errorf("Truths of %s without kids: %v", op, err)
				}
			}
		}
	}
}

// chain: of so many Formulas, with an Op that has one kid, above a.
func chain(op string, n int) prop.Formula {
	f := a
	for range n - 1 {
		f = of(op, f)
	}
	return f
}

// comb: of so many Formulas (an odd number), with an Op that has two kids, of which
// one is a; the other one is the long one.
func comb(op string, n int, toTheRight bool) prop.Formula {
	f := a
	for range n / 2 {
		if toTheRight {
			f = of(op, a, f)
		} else {
			f = of(op, f, a)
		}
	}
	return f
}

// bush: of so many Formulas, with two kids of nearly one size.
func bush(op string, n int) prop.Formula {
	switch n {
	case 1:
		return a
	case 2:
		return of("!", a)
	}
	return of(op, bush(op, (n-1)/2), bush(op, n-1-(n-1)/2))
}

// P14.1
func TestHowManyFormulas(t *testing.T) {
	w := word(". a|b ab")
	for _, n := range []int{4094, 4095, 4096, 4097, 4098, 5000, 9001} {
		var l []prop.Formula
		for _, op := range prefixes {
			l = append(l, chain(op, n))
		}
		for _, op := range betweens {
			l = append(l, bush(op, n), of("!", comb(op, n-1-n%2, true)), of(op, bush(op, n-4), chain("X", 3)))
			if n%2 == 0 {
				l = append(l, of("X", comb(op, n-1, true)), of("X", comb(op, n-1, false)))
			} else {
				l = append(l, comb(op, n, true), comb(op, n, false))
			}
		}
		for _, f := range l {
			size := prop.Size(f)
			if tells, err := Truths(f, abc, w); size <= 4096 && (err != nil || len(tells) != 4) {
				t.Errorf("Truths of %s, %d Formulas: %v, %v", short(f), size, tells, err)
			}
			if size > 4096 {
				fails(t, f, abc, w, api.ErrArg)
				fails(t, of("!", f), abc, w, api.ErrArg)
			}
		}
	}
	isSo(t, chain("X", 4096), abc, w, "1010")
	fails(t, chain("X", 4097), abc, w, api.ErrArg)
	isSo(t, bush("&", 4096), abc, word("a|a"), "00")
	fails(t, bush("&", 4097), abc, word("a|a"), api.ErrArg)
}

// P14.1: of two errors the one that the chapter names first counts.
func TestWhichErrorCounts(t *testing.T) {
	nowhere := label("nowhere")
	wrong := []Lasso{{}, {Stem: []int{0}}, {Loop: []int{8}}, {Stem: []int{-1}, Loop: []int{0}}, {Loop: make([]int, 65)}}
	for _, w := range wrong {
		for _, f := range []prop.Formula{nowhere, of("!", nowhere), of("U", a, nowhere), of("none", nowhere), chain("X", 4097), a} {
			fails(t, f, abc, w, api.ErrArg)
		}
	}
	fails(t, nowhere, []string{"a", "a"}, word("|a"), api.ErrArg)
	fails(t, nowhere, named(7), word("|a"), api.ErrArg)
	for _, bad := range []prop.Formula{{}, of("none"), of("!"), of("X", a, a), of("U", a), of("true", a), of("label", nowhere), chain("G", 4097)} {
		for _, op := range betweens {
			fails(t, of(op, nowhere, bad), abc, word("|a"), api.ErrArg)
			fails(t, of(op, bad, nowhere), abc, word("|a"), api.ErrArg)
			fails(t, of(op, of("X", of(op, nowhere, a)), of("!", bad)), abc, word("|a"), api.ErrArg)
		}
	}
	fails(t, of("&", nowhere, chain("X", 4094)), abc, word("|a"), api.ErrName)
	fails(t, of("&", nowhere, chain("X", 4095)), abc, word("|a"), api.ErrArg)
}

// P14.1: some thousands of nodes, one below the other.
func TestDeepFormulas(t *testing.T) {
	w := word(". a|. . a")
	isSo(t, chain("!", 4096), abc, w, "10110")
	isSo(t, chain("!", 4095), abc, w, "01001")
	isSo(t, chain("F", 4096), abc, w, "11111")
	isSo(t, chain("G", 4096), abc, w, "00000")
	isSo(t, chain("G", 4096), abc, word(".|a"), "01")
	// From the loop's first place 4095 steps lead to it again, and 4094 to the last one.
	isSo(t, chain("X", 4096), abc, w, "01001")
	isSo(t, chain("X", 4095), abc, w, "00100")
	for _, row := range []struct{ op, right, left string }{
		{"&", "01001", "01001"}, {"|", "01001", "01001"}, {"U", "01001", "01001"}, {"W", "01001", "01001"}, {"R", "01001", "01001"}, {"=>", "11111", "11111"},
	} {
		isSo(t, comb(row.op, 4095, true), abc, w, row.right)
		isSo(t, comb(row.op, 4095, false), abc, w, row.left)
	}
	isSo(t, comb("=>", 4093, false), abc, w, "01001")
	for _, n := range []int{4097, 20000} {
		fails(t, chain("X", n), abc, w, api.ErrArg)
		fails(t, comb("U", 2*n+1, true), abc, w, api.ErrArg)
	}
}

// P14.1, R1: formulas that are no trees have too many Formulas.
func TestFormulasThatAreNoTrees(t *testing.T) {
	for _, op := range []string{"X", "!", "&", "R", "none"} {
		f := a
		for range 80 {
			f = of(op, f, f)
		}
		fails(t, f, abc, word("|a"), api.ErrArg)
	}
	round := of("X", prop.Formula{})
	round.Kids[0] = round
	fails(t, round, abc, word("|a"), api.ErrArg)
	twice := of("&", a, a)
	twice.Kids[0], twice.Kids[1] = twice, twice
	fails(t, twice, abc, word("|a"), api.ErrArg)
	fails(t, of("&", slices.Repeat([]prop.Formula{a}, 100000)...), abc, word("|a"), api.ErrArg)
	// One that stands in two places, but is small enough.
	f := of("X", a)
	isSo(t, of("U", f, f), abc, word("|a ."), "01")
}
