package nnf

import (
	"errors"
	"slices"
	"strconv"
	"strings"
	"testing"

	"sortilege/api"
	"sortilege/prop"
)

// The Ops with no kid, with one and with two.
var (
	atoms    = []string{"true", "false", "label"}
	prefixes = []string{"!", "X", "F", "G"}
	betweens = []string{"&", "|", "=>", "U", "W", "R"}
)

// label of a name.
func label(s string) prop.Formula { return prop.Formula{Op: "label", Name: s} }

// Some formulas, for short.
var (
	yes  = of("true")
	no   = of("false")
	a    = label("a")
	b    = label("b")
	notA = of("!", a)
)

// read a formula, in which labels stand as 'a rather than in their signs; places is
// whether it keeps them.
func read(t *testing.T, s string, places bool) prop.Formula {
	t.Helper()
	for _, name := range []string{"a", "b", "c", "d"} {
		s = strings.ReplaceAll(s, "'"+name, `"`+name+`"`)
	}
	f, err := prop.Parse(s, 64)
	if err != nil {
		t.Fatalf("%s: %v", s, err)
	}
	if !places {
		f = placeless(f)
	}
	return f
}

// placeless: the same formula in other memory, all Pos 0.
func placeless(f prop.Formula) prop.Formula {
	var kids []prop.Formula
	for _, kid := range f.Kids {
		kids = append(kids, placeless(kid))
	}
	f.Pos, f.Kids = 0, kids
	return f
}

// same: are two formulas one, with their places?
func same(f, g prop.Formula) bool {
	return f.Op == g.Op && f.Name == g.Name && f.Pos == g.Pos && slices.EqualFunc(f.Kids, g.Kids, same)
}

// short: a formula as it may be shown.
func short(f prop.Formula) string {
	if prop.Size(f) > api.MaxSize {
		return "a long formula that begins with " + f.Op
	}
	s := prop.Print(f)
	if len(s) > 200 {
		return s[:200] + " and on, of " + strconv.Itoa(len(s)) + " bytes"
	}
	return s
}

// isNormally: what Normal tells of a formula, and of what it isn't; both are normal.
func isNormally(t *testing.T, f, so, isnt prop.Formula) {
	t.Helper()
	for i, want := range []prop.Formula{so, isnt} {
		g, err := Normal(f, i == 1)
		if err != nil || !same(g, want) {
			t.Errorf("Normal of %s, %v: %s, %v; want %s", short(f), i == 1, short(g), err, short(want))
		}
		if !Is(g) {
			t.Errorf("Normal of %s, %v isn't normal", short(f), i == 1)
		}
	}
}

// isSimply: what Simple tells of a formula, which is normal.
func isSimply(t *testing.T, f, want prop.Formula) {
	t.Helper()
	if !Is(f) {
		t.Errorf("Is of %s: false", short(f))
	}
	if g, err := Simple(f); err != nil || !same(g, want) {
		t.Errorf("Simple of %s: %s, %v; want %s", short(f), short(g), err, short(want))
	}
}

// isToldWrong: nothing is told but an error.
func isToldWrong(t *testing.T, what string, f prop.Formula, err error, errno api.Errno) {
	t.Helper()
	if !same(f, prop.Formula{}) || err != error(errno) || !errors.Is(err, errno) {
		t.Errorf("%s: %s, %v; want %d", what, short(f), err, errno)
	}
}

// isNotNormal: neither Is nor Simple takes it for normal.
func isNotNormal(t *testing.T, f prop.Formula) {
	t.Helper()
	if Is(f) {
		t.Errorf("Is of %s: true", short(f))
	}
	g, err := Simple(f)
	isToldWrong(t, "Simple of "+short(f), g, err, api.ErrArg)
}

// fails: Normal tells nothing but an error, of a formula and of what it isn't.
func fails(t *testing.T, f prop.Formula, errno api.Errno) {
	t.Helper()
	for _, not := range []bool{false, true} {
		g, err := Normal(f, not)
		isToldWrong(t, "Normal of "+short(f)+", "+strconv.FormatBool(not), g, err, errno)
	}
}

// P15.1
func TestTheChaptersExample(t *testing.T) {
	isNormally(t, read(t, "G ('a => F 'b)", true), read(t, "false R (!'a | true U 'b)", false), read(t, "true U ('a & false R !'b)", false))
}

// P15.1: each Op, and ! of it.
func TestNormalOfEachOp(t *testing.T) {
	for _, row := range []struct{ f, so, isnt string }{
		{"true", "true", "false"}, {"false", "false", "true"}, {"'a", "'a", "!'a"},
		{"!'a", "!'a", "'a"}, {"!true", "false", "true"}, {"!false", "true", "false"}, {"!!'a", "'a", "!'a"}, {"!!!'a", "!'a", "'a"}, {"!!!!true", "true", "false"},
		{"'a & 'b", "'a & 'b", "!'a | !'b"}, {"'a | 'b", "'a | 'b", "!'a & !'b"}, {"'a => 'b", "!'a | 'b", "'a & !'b"},
		{"X 'a", "X 'a", "X !'a"}, {"F 'a", "true U 'a", "false R !'a"}, {"G 'a", "false R 'a", "true U !'a"},
		{"'a U 'b", "'a U 'b", "!'a R !'b"}, {"'a R 'b", "'a R 'b", "!'a U !'b"}, {"'a W 'b", "'b R ('a | 'b)", "!'b U (!'a & !'b)"},
		{"!('a & 'b)", "!'a | !'b", "'a & 'b"}, {"!('a | 'b)", "!'a & !'b", "'a | 'b"}, {"!('a => 'b)", "'a & !'b", "!'a | 'b"},
		{"!X 'a", "X !'a", "X 'a"}, {"!F 'a", "false R !'a", "true U 'a"}, {"!G 'a", "true U !'a", "false R 'a"},
		{"!('a U 'b)", "!'a R !'b", "'a U 'b"}, {"!('a R 'b)", "!'a U !'b", "'a R 'b"}, {"!('a W 'b)", "!'b U (!'a & !'b)", "'b R ('a | 'b)"},
		// Nothing is made simpler.
		{"true & 'a", "true & 'a", "false | !'a"}, {"'a | 'a", "'a | 'a", "!'a & !'a"}, {"F true", "true U true", "false R false"}, {"G false", "false R false", "true U true"}, {"X true", "X true", "X false"}, {"'a W 'a", "'a R ('a | 'a)", "!'a U (!'a & !'a)"}, {"false => true", "true | true", "false & false"},
	} {
		isNormally(t, read(t, row.f, true), read(t, row.so, false), read(t, row.isnt, false))
	}
}

// P15.1: formulas in one another, in which ! is turned again and again.
func TestNormalOfFormulasInOneAnother(t *testing.T) {
	for _, row := range []struct{ f, so, isnt string }{
		{"G F 'a", "false R (true U 'a)", "true U (false R !'a)"}, {"F G !'a", "true U (false R !'a)", "false R (true U 'a)"}, {"!G !F !'a", "true U (true U !'a)", "false R (false R 'a)"}, {"X !X 'a", "X X !'a", "X X 'a"},
		{"('a => 'b) => 'c", "('a & !'b) | 'c", "(!'a | 'b) & !'c"}, {"'a => 'b => 'c", "!'a | (!'b | 'c)", "'a & ('b & !'c)"}, {"!'a => !'b", "'a | !'b", "!'a & 'b"},
		{"('a & !'b) | ('c => !'d)", "('a & !'b) | (!'c | !'d)", "(!'a | 'b) & ('c & 'd)"}, {"!('a & !('b | !'c))", "!'a | ('b | !'c)", "'a & (!'b & 'c)"},
		{"('a U 'b) R ('c W 'd)", "('a U 'b) R ('d R ('c | 'd))", "(!'a R !'b) U (!'d U (!'c & !'d))"}, {"'a U ('b U 'c)", "'a U ('b U 'c)", "!'a R (!'b R !'c)"}, {"('a R 'b) U !'c", "('a R 'b) U !'c", "(!'a U !'b) R 'c"},
		// What stands on the right side of W comes twice, what stands on the left once.
		{"('a W 'b) W 'c", "'c R (('b R ('a | 'b)) | 'c)", "!'c U ((!'b U (!'a & !'b)) & !'c)"}, {"'a W ('b W 'c)", "('c R ('b | 'c)) R ('a | ('c R ('b | 'c)))", "(!'c U (!'b & !'c)) U (!'a & (!'c U (!'b & !'c)))"}, {"!'a W F 'b", "(true U 'b) R (!'a | (true U 'b))", "(false R !'b) U ('a & (false R !'b))"}, {"('a => 'b) W X !'c", "(X !'c) R ((!'a | 'b) | X !'c)", "(X 'c) U (('a & !'b) & X 'c)"},
		// On each side of each.
		{"!('a => 'b) => !(F 'c => G 'd)", "(!'a | 'b) | ((true U 'c) & (true U !'d))", "('a & !'b) & ((false R !'c) | (false R 'd))"}, {"F ('a & G !('b U X 'c))", "true U ('a & (false R (!'b R X !'c)))", "false R (!'a | (true U ('b U X 'c)))"},
	} {
		isNormally(t, read(t, row.f, true), read(t, row.so, false), read(t, row.isnt, false))
	}
}

// P15.1
func TestNamesOfLabels(t *testing.T) {
	for _, name := range []string{"", " ", "a b", "true", "label", "U", "\xff", "a\x00", `"`, strings.Repeat("long", 999)} {
		f := label(name)
		isNormally(t, of("G", of("X", f)), of("R", no, of("X", f)), of("U", yes, of("X", of("!", f))))
		isSimply(t, of("|", of("!", f), of("&", f, yes)), of("|", of("!", f), f))
		isSimply(t, of("|", f, label(name+" ")), of("|", f, label(name+" ")))
	}
	// A name counts of labels alone.
	f := prop.Formula{Op: "R", Name: "x", Kids: []prop.Formula{{Op: "true", Name: "y", Pos: 7}, {Op: "X", Name: "z", Kids: []prop.Formula{{Op: "!", Name: "v", Kids: []prop.Formula{a}}}}}, Pos: 9}
	isNormally(t, f, of("R", yes, of("X", notA)), of("U", no, of("X", a)))
	isSimply(t, f, of("X", notA))
	isSimply(t, of("U", prop.Formula{Op: "X", Name: "y", Kids: []prop.Formula{a}}, prop.Formula{Op: "X", Name: "z", Kids: []prop.Formula{a}}), of("X", a))
}

// P15.1: each rule of what is simpler, with one truth and with the other.
func TestSimpleOfEachRule(t *testing.T) {
	for f, want := range map[string]string{
		"true": "true", "false": "false", "'a": "'a", "!'a": "!'a",
		"true & 'a": "'a", "'a & true": "'a", "false & 'a": "false", "'a & false": "false", "'a & 'a": "'a", "!'a & !'a": "!'a",
		"true | 'a": "true", "'a | true": "true", "false | 'a": "'a", "'a | false": "'a", "'a | 'a": "'a", "X 'a | X 'a": "X 'a",
		"true & true": "true", "true & false": "false", "false & true": "false", "false & false": "false", "true | true": "true", "true | false": "true", "false | true": "true", "false | false": "false",
		"X true": "true", "X false": "false", "X X true": "true", "X X X false": "false",
		"'a U true": "true", "'a U false": "false", "false U 'a": "'a", "'a U 'a": "'a", "true U 'a": "true U 'a",
		"'a R true": "true", "'a R false": "false", "true R 'a": "'a", "'a R 'a": "'a", "false R 'a": "false R 'a",
		"true U true": "true", "true U false": "false", "false U true": "true", "false U false": "false", "true R true": "true", "true R false": "false", "false R true": "true", "false R false": "false",
	} {
		isSimply(t, read(t, f, true), read(t, want, false))
	}
}

// P15.1: what looks as if a rule were for it.
func TestSimpleOfWhatIsSimpleAlready(t *testing.T) {
	for _, s := range []string{
		"X 'a", "X X !'a", "'a & 'b", "'a & !'a", "!'a | 'a", "'a U 'b", "'a R 'b", "true U !'a", "false R X 'a", "'a U !'a", "!'a R 'a",
		// Of two sides that are alike but for their order, a name, an Op or a part.
		"'a & 'b | 'b & 'a", "('a U 'b) & ('b U 'a)", "('a U 'b) U ('a R 'b)", "X 'a R X 'b", "X 'a U 'a", "'a R X 'a", "(X 'a & 'b) | X 'a",
		// No rule reaches further than to a formula's own kids.
		"'a & 'b & 'a", "'a | ('a | 'b)", "'a & ('a | 'b)", "'a U ('a U 'b)", "('a U 'b) U 'b", "true U (true U 'a)", "false R (false R 'a)", "false R (true U 'a)", "'a R ('a R 'b)", "X 'a & X 'b", "X (true U 'a)", "true U X 'a", "('a & 'b) | ('a & 'c)", "(true U 'a) R (false R 'b)",
	} {
		isSimply(t, read(t, s, true), read(t, s, false))
	}
}

// P15.1: from the inside on.
func TestSimpleFromTheInsideOn(t *testing.T) {
	for f, want := range map[string]string{
		"('a & true) U ('a | false)": "'a", "X (true & true)": "true", "X (false & 'a)": "false", "('a | true) & 'b": "'b", "'b & ('a | true)": "'b", "('a & false) | 'b": "'b", "'b & ('a & false)": "false",
		"('a & 'a) & 'a": "'a", "'a | ('a | 'a)": "'a", "('a & 'b & true) | ('a & (false | 'b))": "'a & 'b", "X ('a & 'a) U X 'a": "X 'a", "'b R X X true": "true", "X X false R 'b": "false R 'b", "X true R 'b": "'b", "X false U 'b": "'b", "X true U 'b": "true U 'b",
		"('a U false) U 'b": "'b", "('a R true) R 'b": "'b", "('a U true) U 'b": "true U 'b", "('a R false) R 'b": "false R 'b", "('a U 'b) & ('c U true)": "'a U 'b", "X ('a U ('b U true))": "true", "('a | !'a & true) R ('b & 'b)": "('a | !'a) R 'b",
		"false R ((true U 'a) | (true U 'a))": "false R (true U 'a)", "(('a & true) U ('b | false)) & ((false | 'a) U ('b & 'b))": "'a U 'b",
	} {
		isSimply(t, read(t, f, true), read(t, want, false))
	}
}

// P15.1
func TestIsOfEachOp(t *testing.T) {
	for _, s := range []string{"true", "false", "'a", "!'a", "X 'a", "'a & !'b", "'a | true", "'a U false", "!'a R !'b", "X (!'a U X ('b R (true & !'c)))"} {
		isSimply(t, read(t, s, true), placeless(must(Simple(read(t, s, false)))))
	}
	for _, s := range []string{"!true", "!false", "!!'a", "!X 'a", "!('a & 'b)", "!('a | 'b)", "!('a U 'b)", "!('a R 'b)", "F 'a", "G 'a", "'a => 'b", "'a W 'b"} {
		f := read(t, s, true)
		for _, g := range append([]prop.Formula{f}, normalAround(f)...) {
			isNotNormal(t, g)
			isNormally(t, g, n(g), d(g))
		}
	}
}

// must: what is told, of a call that may not fail.
func must(f prop.Formula, err error) prop.Formula {
	if err != nil {
		panic(err)
	}
	return f
}

// normalAround: a formula in others that are normal but for it, first and last, and
// deep within.
func normalAround(f prop.Formula) []prop.Formula {
	l := []prop.Formula{of("X", f), of("X", of("X", f))}
	for _, op := range []string{"&", "|", "U", "R"} {
		l = append(l, of(op, f, yes), of(op, notA, f), of(op, of(op, a, of("X", f)), b))
	}
	deep := f
	for range 1000 {
		deep = of("X", deep)
	}
	return append(l, deep, of("&", no, of("|", yes, deep)))
}

// around: likewise, and in others.
func around(f prop.Formula) []prop.Formula {
	l := append(normalAround(f), f, of("!", f), of("F", of("G", of("!", f))))
	for _, op := range []string{"=>", "W"} {
		l = append(l, of(op, f, yes), of(op, notA, f))
	}
	return l
}

// P15.1
func TestOpsThatAreNone(t *testing.T) {
	for _, op := range []string{"", " ", "True", "TRUE", "not", "~", "x", "f", "u", "M", "XX", "X ", " X", "GF", "Label", "labels", "name", "num", "&&", "||", "->", "<=>", "=", "(", "?", "true ", "\x00", "\xff", strings.Repeat("X", 9999)} {
		for kids := range 4 {
			f := prop.Formula{Op: op, Name: "a", Kids: slices.Repeat([]prop.Formula{a}, kids)}
			for _, g := range around(f) {
				fails(t, g, api.ErrArg)
				isNotNormal(t, g)
			}
		}
	}
	fails(t, prop.Formula{}, api.ErrArg)
	fails(t, of("&", make([]prop.Formula, 2)...), api.ErrArg)
	isNotNormal(t, prop.Formula{})
	isNotNormal(t, of("!", prop.Formula{}))
	isNotNormal(t, of("|", make([]prop.Formula, 2)...))
}

// P15.1
func TestOtherKids(t *testing.T) {
	for kids, ops := range [][]string{atoms, prefixes, betweens} {
		for _, op := range ops {
			for n := range 5 {
				f := prop.Formula{Op: op, Name: "a", Kids: slices.Repeat([]prop.Formula{a}, n)}
				for _, g := range around(f) {
					if n != kids {
						fails(t, g, api.ErrArg)
						isNotNormal(t, g)
					} else if _, err := Normal(g, n == 1); err != nil {
						t.Errorf("Normal of %s: %v", short(g), err)
					}
				}
			}
			// An empty list, and a nil one.
			for _, l := range [][]prop.Formula{nil, {}} {
				f := prop.Formula{Op: op, Name: "a", Kids: l}
				if _, err := Normal(f, false); (err == nil) != (kids == 0) {
					t.Errorf("Normal of %s without kids: %v", op, err)
				}
				if Is(f) != (kids == 0) {
					t.Errorf("Is of %s without kids: %v", op, kids != 0)
				}
			}
		}
	}
	// ! of a label that has kids, or of something that has a label behind it.
	isNotNormal(t, of("!", of("label", a)))
	isNotNormal(t, of("!", a, a))
	fails(t, of("!", of("label", a)), api.ErrArg)
}

// chain: of so many Formulas, with an Op that has one kid, above some formula of one.
func chain(op string, n int, f prop.Formula) prop.Formula {
	for range n - 1 {
		f = of(op, f)
	}
	return f
}

// comb: of so many Formulas (an odd number), with an Op that has two kids, of which one
// is a; the other one is the long one.
func comb(op string, n int, toTheRight bool) prop.Formula {
	f := a
	for range n / 2 {
		if toTheRight {
			f = of(op, a, f)
		} else {
			f = of(op, f, a)
		}
	}
	return f
}

// isOf: how long a formula's normal form is, or that it is too long.
func isOf(t *testing.T, f prop.Formula, not bool, size int) {
	t.Helper()
	g, err := Normal(f, not)
	if size > 4096 {
		isToldWrong(t, "Normal of "+short(f), g, err, api.ErrLong)
	} else if err != nil || prop.Size(g) != size || !Is(g) {
		t.Errorf("Normal of %s, %v: %s, of %d, %v; want %d", short(f), not, short(g), prop.Size(g), err, size)
	}
}

// P15.1: what has just as many Formulas as may be, and what has one more.
func TestHowManyFormulas(t *testing.T) {
	for _, n := range []int{4093, 4094, 4095, 4096} {
		isOf(t, chain("X", n, a), false, n)
		isOf(t, chain("X", n, a), true, n+1)
		isOf(t, chain("X", n, yes), true, n)
		isOf(t, of("!", chain("X", n-1, a)), false, n)
		isOf(t, of("!", chain("X", n-1, a)), true, n-1)
		isOf(t, chain("!", n, a), false, 2-n%2)
		isOf(t, chain("!", n, a), true, 1+n%2)
		isOf(t, chain("!", n, no), false, 1)
	}
	// Of those the answer would have few.
	for _, n := range []int{4097, 4098, 5000, 9001, 70000} {
		for _, f := range []prop.Formula{chain("!", n, a), chain("!", n, yes), of("X", chain("!", n-1, a)), of("=>", a, chain("!", n-2, b)), chain("X", n, a), comb("&", n-1+n%2, true), comb("R", n+1-n%2, false)} {
			fails(t, f, api.ErrLong)
		}
	}
	// F and G come to one more, => too, where its left side is a label.
	for _, n := range []int{2046, 2047, 2048, 2049, 2050} {
		for _, op := range []string{"F", "G"} {
			isOf(t, chain(op, n, a), false, 2*n-1)
			isOf(t, chain(op, n, a), true, 2*n)
			isOf(t, chain(op, n, no), true, 2*n-1)
			isOf(t, of("X", of("X", chain(op, n, a))), false, 2*n+1)
		}
	}
	for _, n := range []int{2729, 2731, 2733} {
		isOf(t, comb("=>", n, true), false, n+n/2)
		isOf(t, of("X", comb("=>", n, true)), false, n+n/2+1)
		isOf(t, of("X", of("X", comb("=>", n, true))), true, n+3)
	}
	// A label of which ! comes has one more.
	for _, op := range []string{"&", "|", "U", "R"} {
		for _, n := range []int{2727, 2729, 2731, 2733} {
			for _, right := range []bool{false, true} {
				isOf(t, comb(op, n, right), false, n)
				isOf(t, comb(op, n, right), true, n+n/2+1)
				isOf(t, of("X", comb(op, n, right)), true, n+n/2+2)
				isOf(t, of("X", of("X", of("X", comb(op, n, right)))), true, n+n/2+4)
			}
		}
	}
}

// P15.1: what W doubles.
func TestHowManyFormulasOfW(t *testing.T) {
	// One W on the right of another one: 2, and the left side, and twice the right one.
	f, so, isnt := a, 1, 2
	for range 60 {
		f, so, isnt = of("W", b, f), min(9999, 3+2*so), min(9999, 4+2*isnt)
		isOf(t, f, false, so)
		isOf(t, f, true, isnt)
	}
	// On the left of one.
	f, so, isnt = a, 1, 2
	for range 1100 {
		f, so, isnt = of("W", f, b), so+4, isnt+6
		isOf(t, f, false, so)
		isOf(t, f, true, isnt)
	}
	for n := 2040; n < 2052; n++ {
		isOf(t, of("W", a, chain("X", n, a)), false, 2*n+3)
		isOf(t, of("W", a, chain("X", n, a)), true, 2*n+6)
		isOf(t, of("X", of("W", a, chain("X", n, a))), false, 2*n+4)
		isOf(t, of("W", chain("X", 2*n, yes), b), false, 2*n+4)
	}
	// So many that nobody could wait for all of them, each of them with much to turn.
	f = a
	for range 1000 {
		f = of("W", a, of("!", of("!", f)))
	}
	fails(t, f, api.ErrLong)
	f = chain("!", 3000, a)
	for range 500 {
		f = of("W", a, f)
	}
	fails(t, f, api.ErrLong)
}

// P15.1, R2: ErrArg comes ahead of ErrLong, wherever it stands.
func TestOrderOfErrors(t *testing.T) {
	for _, bad := range []prop.Formula{{}, of("none", a), of("&", a), of("true", a), of("!", a, b), of("U", a, b, a), of("label", yes), of("M", a, b)} {
		for _, long := range []prop.Formula{chain("X", 5000, a), comb("&", 4095, true), comb("U", 6001, false), chain("!", 4095, a)} {
			for _, f := range []prop.Formula{of("&", long, bad), of("R", bad, long), of("W", of("=>", long, of("X", bad)), long)} {
				fails(t, f, api.ErrArg)
				isNotNormal(t, f)
			}
		}
		for _, op := range prefixes {
			fails(t, chain(op, 5000, bad), api.ErrArg)
		}
		// The answer would be too long.
		f := bad
		for range 60 {
			f = of("W", a, f)
		}
		fails(t, f, api.ErrArg)
		isNotNormal(t, f)
	}
}

// P15.1: Is of what is too long, and Simple.
func TestNormalFormulasThatAreLong(t *testing.T) {
	for _, n := range []int{4095, 4097, 5001, 9001, 30001} {
		for _, op := range []string{"&", "|", "U", "R"} {
			for _, f := range []prop.Formula{comb(op, n, true), comb(op, n, false)} {
				g, err := Simple(f)
				if !Is(f) {
					t.Errorf("Is of %s: false", short(f))
				}
				if n > 4096 {
					isToldWrong(t, "Simple of "+short(f), g, err, api.ErrLong)
				} else if err != nil || !same(g, a) && prop.Size(g) != n {
					t.Errorf("Simple of %s: %s, %v", short(f), short(g), err)
				}
				// One that isn't normal at its very end, and at its beginning.
				for _, bad := range []prop.Formula{of("F", a), of("!", yes), of("=>", a, a), {}} {
					isNotNormal(t, of(op, f, bad))
					isNotNormal(t, of(op, bad, f))
				}
			}
		}
	}
	isSimply(t, chain("X", 4096, a), chain("X", 4096, a))
	isSimply(t, chain("X", 4096, yes), yes)
	isSimply(t, of("X", comb("&", 4095, true)), of("X", a))
	for _, n := range []int{4097, 70000} {
		g, err := Simple(chain("X", n, yes))
		isToldWrong(t, "Simple of a long chain", g, err, api.ErrLong)
	}
}

// R1: formulas that are within themselves, or within others again and again.
func TestFormulasThatAreNoTrees(t *testing.T) {
	for _, op := range []string{"!", "X", "F", "G"} {
		l := make([]prop.Formula, 1)
		l[0] = of(op, l...)
		l[0].Kids = l
		fails(t, l[0], api.ErrLong)
	}
	for _, op := range betweens {
		l := make([]prop.Formula, 2)
		l[0], l[1] = prop.Formula{Op: op, Kids: l}, prop.Formula{Op: op, Kids: l}
		fails(t, l[1], api.ErrLong)
		f := a
		for range 200 {
			f = of(op, f, f)
		}
		fails(t, f, api.ErrLong)
		l[1] = of("none")
		fails(t, l[0], api.ErrArg)
	}
	l := make([]prop.Formula, 2)
	l[0], l[1] = prop.Formula{Op: "U", Kids: l}, prop.Formula{Op: "X", Kids: l[:1]}
	g, err := Simple(l[0])
	if err == nil || !same(g, prop.Formula{}) {
		t.Errorf("Simple of one within itself: %s, %v", short(g), err)
	}
	l[1] = of("F", a)
	isNotNormal(t, l[0])
}
