package prop

import (
	"errors"
	"math"
	"reflect"
	"slices"
	"strconv"
	"strings"
	"testing"

	"sortilege/api"
)

// of, label and at: formulas without a place, and with one.
func of(op string, kids ...Formula) Formula { return Formula{Op: op, Kids: kids} }
func label(s string) Formula                { return Formula{Op: "label", Name: s} }
func at(pos int, f Formula) Formula         { f.Pos = pos; return f }

// Some of them, for short.
var (
	a = label("a")
	b = label("b")
	c = label("c")
	d = label("d")
)

// The words and signs with one kid, and with two.
var (
	prefixes = []string{"!", "X", "F", "G"}
	untils   = []string{"U", "W", "R"}
	betweens = []string{"=>", "|", "&", "U", "W", "R"}
)

// kindsOf: the kinds of questions.
var kindsOf = []string{"Pmin=1", "Pmin>0", "Pmax=1", "Pmax>0"}

// isPlain: an error without a place.
func isPlain(err error, errno api.Errno) bool { return err == error(errno) }

// isAt: an error at a place, as errors.Is and errors.As tell it.
func isAt(err error, errno api.Errno, pos int) bool {
	var at *api.At
	return errors.Is(err, errno) && errors.As(err, &at) && at.Pos == pos
}

// isZero: is nothing told?
func isZero(f Formula) bool {
	return reflect.DeepEqual(f, Formula{})
}

// short: a text as it may be shown.
func short(s string) string {
	if len(s) > 80 {
		return strconv.Quote(s[:80]) + " and on, of " + strconv.Itoa(len(s)) + " bytes"
	}
	return strconv.Quote(s)
}

// quoted: a text in which labels stand as 'a rather than in their signs.
func quoted(s string) string {
	for _, name := range []string{"a", "b", "c", "d"} {
		s = strings.ReplaceAll(s, "'"+name, `"`+name+`"`)
	}
	return s
}

// bare: a formula without its places, and without lists that are empty, so that
// reflect.DeepEqual compares the rest.
func bare(f Formula) Formula {
	var kids []Formula
	for _, kid := range f.Kids {
		kids = append(kids, bare(kid))
	}
	f.Kids, f.Pos = kids, 0
	return f
}

// reads: a text is read as this, whatever the places.
func reads(t *testing.T, s string, right Formula) {
	t.Helper()
	s = quoted(s)
	if f, err := Parse(s, 64); err != nil || !reflect.DeepEqual(bare(f), bare(right)) {
		t.Errorf("Parse(%s): %+v, %v; want %+v", short(s), f, err, right)
	}
}

// readsAt: a text is read as this, with these places.
func readsAt(t *testing.T, s string, right Formula) {
	t.Helper()
	s = quoted(s)
	if f, err := Parse(s, 64); err != nil || !reflect.DeepEqual(f, right) {
		t.Errorf("Parse(%s): %+v, %v; want %+v", short(s), f, err, right)
	}
}

// fails: a text can't be read, by this error at this place, and nothing else
// is told.
func fails(t *testing.T, s string, depth int, errno api.Errno, pos int) {
	t.Helper()
	if f, err := Parse(s, depth); !isZero(f) || !isAt(err, errno, pos) {
		t.Errorf("Parse(%s, %d): %+v, %v; want %d at %d", short(s), depth, f, err, errno, pos)
	}
}

// failsAsk: likewise of questions.
func failsAsk(t *testing.T, s string, depth int, errno api.Errno, pos int) {
	t.Helper()
	if l, err := Queries(s, depth); len(l) != 0 || !isAt(err, errno, pos) {
		t.Errorf("Queries(%s, %d): %+v, %v; want %d at %d", short(s), depth, l, err, errno, pos)
	}
}

// marked: a text with one @, without it, and the place of what stood behind.
func marked(t *testing.T, s string) (string, int) {
	t.Helper()
	ahead, behind, is := strings.Cut(quoted(s), "@")
	if !is || strings.Contains(behind, "@") {
		t.Fatalf("%q hasn't one mark", s)
	}
	return ahead + behind, len(ahead)
}

// failsAt: by ErrSyntax at the token behind the @.
func failsAt(t *testing.T, s string) {
	t.Helper()
	text, pos := marked(t, s)
	fails(t, text, 64, api.ErrSyntax, pos)
}

// failsAskAt: likewise of questions.
func failsAskAt(t *testing.T, s string) {
	t.Helper()
	text, pos := marked(t, s)
	failsAsk(t, text, 64, api.ErrSyntax, pos)
}

// tells: a formula is told so, and the text is read as the same again.
func tells(t *testing.T, f Formula, right string) {
	t.Helper()
	right = quoted(right)
	if s := Print(f); s != right {
		t.Errorf("Print(%+v): %q; want %q", f, s, right)
	}
	reads(t, right, f)
}

// asks: a text is read as these questions, at that depth.
func asks(t *testing.T, s string, depth int, right ...Query) {
	t.Helper()
	s = quoted(s)
	l, err := Queries(s, depth)
	if err != nil || len(l) != len(right) || len(l) > 0 && !reflect.DeepEqual(l, right) {
		t.Errorf("Queries(%s, %d): %+v, %v; want %+v", short(s), depth, l, err, right)
	}
}

// P7.1
func TestTheChaptersExample(t *testing.T) {
	tells(t, of("G", of("=>", a, of("F", b))), "G ('a => F 'b)")
	reads(t, "G('a=>F'b)", of("G", of("=>", a, of("F", b))))
}

// P7.1
func TestDepthsThatCantBe(t *testing.T) {
	for _, depth := range []int{math.MinInt, -64, -1, 0, 65, 66, 128, math.MaxInt} {
		// ErrArg comes ahead of what else is wrong.
		for _, s := range []string{"true", "Pmin=1[true];", "", "true true", "#", "\"", "99999999999999999999", strings.Repeat(" ", 65537)} {
			if f, err := Parse(s, depth); !isZero(f) || !isPlain(err, api.ErrArg) {
				t.Errorf("Parse(%s, %d): %+v, %v", short(s), depth, f, err)
			}
			if l, err := Queries(s, depth); len(l) != 0 || !isPlain(err, api.ErrArg) {
				t.Errorf("Queries(%s, %d): %+v, %v", short(s), depth, l, err)
			}
		}
	}
}

// P7.1
func TestDepthsThatMayBe(t *testing.T) {
	for depth := 1; depth <= 64; depth++ {
		if f, err := Parse("true", depth); err != nil || !reflect.DeepEqual(f, of("true")) {
			t.Errorf("Parse(%d): %+v, %v", depth, f, err)
		}
		asks(t, "", depth)
		asks(t, "Pmin=1[true];", depth, Query{"Pmin=1", at(7, of("true")), 0})
	}
}

// P7.1
func TestTextsThatScanRefuses(t *testing.T) {
	for _, row := range []struct {
		s     string
		errno api.Errno
		pos   int
	}{
		{"#", api.ErrSyntax, 0}, {"true & \"\"", api.ErrSyntax, 7}, {"X X \"a", api.ErrSyntax, 4}, {"\x00", api.ErrSyntax, 0},
		{strings.Repeat(" ", 65536), api.ErrSyntax, 65536},
		// The whole text is read as tokens ahead of anything else.
		{") #", api.ErrSyntax, 2}, {"Pmin=0[true]; #", api.ErrSyntax, 14}, {"x 9223372036854775808", api.ErrOver, 2},
		{"9223372036854775808", api.ErrOver, 0}, {"Pmin=9223372036854775808[true];", api.ErrOver, 5},
		{"((true)) \"", api.ErrSyntax, 9}, {"Pmin=1[((true))]; 9223372036854775808", api.ErrOver, 18},
	} {
		fails(t, row.s, 1, row.errno, row.pos)
		if row.s[0] != ' ' {
			failsAsk(t, row.s, 1, row.errno, row.pos)
		}
	}
	long := strings.Repeat(" ", 65537)
	if f, err := Parse(long, 9); !isZero(f) || !isPlain(err, api.ErrLong) {
		t.Errorf("Parse of too many bytes: %+v, %v", f, err)
	}
	if l, err := Queries(long, 9); len(l) != 0 || !isPlain(err, api.ErrLong) {
		t.Errorf("Queries of too many bytes: %+v, %v", l, err)
	}
	reads(t, "true"+long[:65532], of("true"))
	asks(t, long[:65536], 9)
}

// P7.1
func TestEachOpAlone(t *testing.T) {
	reads(t, "true", of("true"))
	reads(t, "false", of("false"))
	for _, name := range []string{"a", " ", "true", "X", "U", "&", "=>", "(", "//", "x'y", "Pmin=1 [ a ];", strings.Repeat("~", 32)} {
		reads(t, `"`+name+`"`, label(name))
	}
	for _, op := range prefixes {
		reads(t, op+"'a", of(op, a))
		reads(t, " "+op+" // a\n true ", of(op, of("true")))
		reads(t, op+"(false)", of(op, of("false")))
	}
	for _, op := range betweens {
		reads(t, "'a"+op+"'b", of(op, a, b))
		reads(t, "true "+op+" false", of(op, of("true"), of("false")))
		reads(t, "('a)"+op+"('b)", of(op, a, b))
	}
	reads(t, "((('a)))", a)
}

// P7.1: of two signs that stand without parentheses the tighter one is the kid.
func TestEachOpBesideEachOther(t *testing.T) {
	ranks := [][]string{{"=>"}, {"|"}, {"&"}, untils}
	for i, loose := range ranks {
		for _, tight := range ranks[i+1:] {
			for _, l := range loose {
				for _, op := range tight {
					reads(t, "'a"+l+"'b"+op+"'c", of(l, a, of(op, b, c)))
					reads(t, "'a"+op+"'b"+l+"'c", of(l, of(op, a, b), c))
					reads(t, "('a"+l+"'b)"+op+"'c", of(op, of(l, a, b), c))
					reads(t, "'a"+op+"('b"+l+"'c)", of(op, a, of(l, b, c)))
				}
			}
		}
	}
	for _, op := range betweens {
		for _, p := range prefixes {
			reads(t, p+"'a"+op+"'b", of(op, of(p, a), b))
			reads(t, "'a"+op+" "+p+"'b", of(op, a, of(p, b)))
			reads(t, p+"('a"+op+"'b)", of(p, of(op, a, b)))
		}
	}
	for _, p := range prefixes {
		for _, q := range prefixes {
			reads(t, p+" "+q+" 'a", of(p, of(q, a)))
			reads(t, p+"("+q+" 'a)", of(p, of(q, a)))
		}
	}
}

// P7.1
func TestChains(t *testing.T) {
	for _, op := range []string{"|", "&"} {
		reads(t, "'a"+op+"'b"+op+"'c"+op+"'d", of(op, of(op, of(op, a, b), c), d))
		reads(t, "'a"+op+"('b"+op+"'c)", of(op, a, of(op, b, c)))
	}
	for _, op := range append([]string{"=>"}, untils...) {
		reads(t, "'a"+op+"'b"+op+"'c"+op+"'d", of(op, a, of(op, b, of(op, c, d))))
		reads(t, "('a"+op+"'b)"+op+"'c", of(op, of(op, a, b), c))
	}
	for _, p := range untils {
		for _, q := range untils {
			reads(t, "'a"+p+"'b"+q+"'c", of(p, a, of(q, b, c)))
		}
	}
	reads(t, "'a|'b&'c|'d", of("|", of("|", a, of("&", b, c)), d))
	reads(t, "'a U 'b & 'c => 'd | !'a R 'b => false", of("=>", of("&", of("U", a, b), c), of("=>", of("|", d, of("R", of("!", a), b)), of("false"))))
}

// P7.1: chains to the left need no depth, so they may be as long as a text.
func TestLongChains(t *testing.T) {
	for _, op := range []string{"|", "&"} {
		s := strings.Repeat(`"a"`+op, 16383) + `"a"`
		f, err := Parse(s, 1)
		if err != nil || f.Op != op || f.Pos != 0 || len(f.Kids) != 2 || f.Kids[1].Pos != 65532 {
			t.Fatalf("Parse(%s): %v", short(s), err)
		}
		if told := Print(f); told != strings.ReplaceAll(s, op, " "+op+" ") {
			t.Errorf("Print: %s", short(told))
		}
		if n := Size(f); n != 4097 {
			t.Errorf("Size: %d", n)
		}
		if !Same(f, f) || Same(f, f.Kids[0]) || !slices.Equal(Labels(f), []string{"a"}) {
			t.Errorf("Same or Labels of %s", short(s))
		}
	}
	n := 65536 / len("Pmin=1[true];")
	if l, err := Queries(strings.Repeat("Pmin=1[true];", n), 1); err != nil || len(l) != n {
		t.Errorf("%d questions: %d, %v", n, len(l), err)
	}
}

// P7.1
func TestTheFirstTokenThatCantStandThere(t *testing.T) {
	for _, s := range []string{
		// The end among them.
		"@", "  @", "// 'a@", "(@", "('a@", "(('a)@", "('a &@", "('a U 'b@", "!(X 'a@",
		// Those with which nothing begins.
		"@)", "@]", "@['a]", "@[", "@;", "@:", "@,", "@'", "@..", "@->", "@-'a", "@1", "@0", "@x", "@a", "@True", "@TRUE", "@x'", "@Pmin=1['a];", "@mdp",
		"@+'a", "@= 'a", "@!='a", "@< 'a", "@? 'a", "@& 'a", "@| 'a", "@=> 'a", "@U 'a", "@W 'a", "@R 'a", "@u", "@XX 'a", "@Xtrue", "@GF 'a", "@F1", "@_",
		"(@)", "((@))", "(@", "('a & @)", "(! @)", "(@U 'a)",
		// Those behind a whole one.
		"'a @'b", "'a @1", "'a @true", "true @false", "true @'a", "'a @('b)", "'a @!'b", "'a @X 'b", "'a @F", "'a @x", "'a @Utrue", "'a @u 'b", "('a) @'b", "('a @'b)",
		"'a@)", "('a)@)", "(('a)@]", "'a @]", "'a@;", "'a @-> 'b", "'a @= 'b", "'a @!= 'b", "'a @>= 'b", "'a @<= 'b", "'a @> 0", "'a @+ 'b", "'a @- 'b", "'a @* 'b", "'a @?", "'a @: 'b", "'a @.. 'b", "'a @[", "'a @,", "'a @' 'b",
		// Labels with the text of a sign or a word.
		"'a @\"U\" 'b", "'a @\"&\" 'b", "'a @\"=>\" 'b", "('a @\")\"", "\"(\" @'a)", "\"X\" @'a", "\"!\" @'a",
		// Two where one is, and those that are none here.
		"'a &@& 'b", "'a |@| 'b", "'a => @=> 'b", "'a U @U 'b", "'a U @W 'b", "'a & @| 'b", "'a | @& 'b", "'a => @| 'b", "'a R @=> 'b", "'a @== 'b", "'a @=! 'b", "'a @<=> 'b", "! @= 'a", "X @& 'a", "X @U 'a", "G @R",
	} {
		failsAt(t, s)
	}
	for _, op := range prefixes {
		for _, behind := range []string{"", " ", ")", " U 'a", " =>", " 1", " x", "()"} {
			text := op + behind
			fails(t, quoted(text), 64, api.ErrSyntax, firstBehind(text, len(op)))
		}
	}
	for _, op := range betweens {
		for _, behind := range []string{"", " ", ")", " U 'a", " =>", " 1", " x", " |"} {
			text := `"a" ` + op + behind
			fails(t, quoted(text), 64, api.ErrSyntax, firstBehind(text, 4+len(op)))
		}
	}
}

// firstBehind: the place of the token that can't stand in a text from a place on,
// where blanks and an opening parenthesis may.
func firstBehind(s string, from int) int {
	return len(s) - len(strings.TrimLeft(s[from:], " ("))
}

// P7.1
func TestPlaces(t *testing.T) {
	readsAt(t, " true", at(1, of("true")))
	readsAt(t, "\n\tfalse ", at(2, of("false")))
	readsAt(t, "//\n'a", at(3, a))
	for _, op := range prefixes {
		readsAt(t, " "+op+" 'a", at(1, of(op, at(3, a))))
		readsAt(t, op+" "+op+"  'a", at(0, of(op, at(2, of(op, at(5, a))))))
	}
	// With a left side.
	for _, op := range betweens {
		n := len(op)
		readsAt(t, " 'a "+op+" 'b", at(1, of(op, at(1, a), at(6+n, b))))
		readsAt(t, "!'a "+op+" X 'b", at(0, of(op, at(0, of("!", at(1, a))), at(6+n, of("X", at(8+n, b))))))
	}
	readsAt(t, "'a|'b|'c", at(0, of("|", at(0, of("|", at(0, a), at(4, b))), at(8, c))))
	readsAt(t, "'a&'b&'c", at(0, of("&", at(0, of("&", at(0, a), at(4, b))), at(8, c))))
	readsAt(t, "'a=>'b=>'c", at(0, of("=>", at(0, a), at(5, of("=>", at(5, b), at(10, c))))))
	readsAt(t, "'aU'bR'c", at(0, of("U", at(0, a), at(4, of("R", at(4, b), at(8, c))))))
	readsAt(t, "'a U 'b & 'c", at(0, of("&", at(0, of("U", at(0, a), at(6, b))), at(12, c))))
	// Alone in parentheses.
	readsAt(t, " ('a)", at(1, a))
	readsAt(t, "( 'a&'b)", at(0, of("&", at(2, a), at(6, b))))
	readsAt(t, "(!'a)", at(0, of("!", at(2, a))))
	readsAt(t, "'c&('a|'b)", at(0, of("&", at(0, c), at(4, of("|", at(5, a), at(9, b))))))
	readsAt(t, "!('a)", at(0, of("!", at(1, a))))
	readsAt(t, "'c U ('a)", at(0, of("U", at(0, c), at(6, a))))
	// Several about it alone.
	readsAt(t, " ( ( ('a)))", at(1, a))
	readsAt(t, "(('a&'b))", at(0, of("&", at(2, a), at(6, b))))
	readsAt(t, "G ( ( F 'a))", at(0, of("G", at(2, of("F", at(8, a))))))
	// About a left side, and not alone.
	readsAt(t, "('a)&'b", at(0, of("&", at(0, a), at(6, b))))
	readsAt(t, "('a)U'b", at(0, of("U", at(0, a), at(6, b))))
	readsAt(t, "(('a)=>'b)|'c", at(0, of("|", at(0, of("=>", at(1, a), at(8, b))), at(13, c))))
	readsAt(t, "((('a)R'b)W'c)", at(0, of("W", at(1, of("R", at(2, a), at(8, b))), at(13, c))))
}

// P7.1: at a row's depth its text is read, and so is a question of it; at one
// below it, it is too deep at the mark.
func TestDepths(t *testing.T) {
	for _, row := range []struct {
		s     string
		depth int
	}{
		{"(@'a)", 2}, {"((@'a))", 3}, {"(('a) | ((@'b)))", 4}, {"( @'a & 'b )", 2}, {"'a | (@'b)", 2}, {"(@'a) | ('b)", 2}, {"('a) | ((@'b))", 3},
		{"!@'a", 2}, {"X @'a", 2}, {"F @'a", 2}, {"G @'a", 2}, {"!!@'a", 3}, {"X X @'a", 3}, {"!X F G @true", 5}, {"!(@'a)", 3}, {"'a & !@'b", 2}, {"!'a & !X @'b", 3},
		{"'a => @'b", 2}, {"'a U @'b", 2}, {"'a W @'b", 2}, {"'a R @'b", 2}, {"'a => 'b => @'c", 3}, {"'a U 'b U @'c", 3}, {"'a W 'b R @'c", 3}, {"'a => 'b U @'c", 3},
		{"'a => (@'b)", 3}, {"'a U (@'b)", 3}, {"'a W X @'b", 3}, {"'a R !@'b", 3}, {"'a => @'b | 'c & 'd", 2}, {"'a => 'b | 'c & !@'d", 3},
		{"(@'a) => 'b", 2}, {"('a => @'b) => 'c", 3}, {"('a U @'b) U 'c", 3}, {"!@'a U 'b", 2}, {"'a & 'b U @'c", 2}, {"'a U 'b & 'c U 'd U @'a", 3}, {"'a & 'b | 'c & 'd U @'a => 'b", 2}, {"G ('a => F @'b)", 5},
		{strings.Repeat("(", 63) + "@'a" + strings.Repeat(")", 63), 64},
		{strings.Repeat("!", 63) + "@'a", 64}, {strings.Repeat("X ", 63) + "@'a", 64}, {strings.Repeat("F ", 63) + "@'a", 64}, {strings.Repeat("G ", 63) + "@'a", 64},
		{strings.Repeat("'a=>", 63) + "@'a", 64}, {strings.Repeat("'aU", 63) + "@'a", 64}, {strings.Repeat("'aW", 63) + "@'a", 64}, {strings.Repeat("'aR", 63) + "@'a", 64},
	} {
		s, pos := marked(t, row.s)
		question := "Pmax>0[" + s + "];"
		for depth := row.depth; depth <= 64; depth++ {
			if f, err := Parse(s, depth); err != nil || isZero(f) {
				t.Errorf("Parse(%s, %d): %+v, %v", short(s), depth, f, err)
			}
			if l, err := Queries(question, depth); err != nil || len(l) != 1 {
				t.Errorf("Queries(%s, %d): %+v, %v", short(question), depth, l, err)
			}
		}
		fails(t, s, row.depth-1, api.ErrDeep, pos)
		failsAsk(t, question, row.depth-1, api.ErrDeep, pos+7)
	}
	for _, s := range []string{"true", "'a", "'a|'b|'c|'d", "'a & 'b | 'c & 'd | true & false"} {
		if f, err := Parse(quoted(s), 1); err != nil || isZero(f) {
			t.Errorf("Parse(%q, 1): %+v, %v", s, f, err)
		}
	}
}

// P7.1: of several that are too deep the first one is told.
func TestTheFirstThatIsTooDeep(t *testing.T) {
	for _, row := range []struct {
		s     string
		depth int
	}{
		{"G @('a => F 'b)", 1}, {"G (@'a => F 'b)", 2}, {"G ('a => @F 'b)", 3}, {"G ('a => F @'b)", 4},
		{"! @! ! 'a", 1}, {"! ! @! 'a", 2}, {"! @('a)", 1}, {"'a => @('b)", 1}, {"'a U @X 'b", 1}, {"'a U @'b & 'c U 'd U 'a", 1}, {"'a U @'b U 'c", 1},
		{"(@('a) | (('b)))", 1}, {"((@'a) | (('b)))", 2}, {"'a & !@'b & !!'c", 1}, {"'a => @!'b => !!'c", 1},
	} {
		s, pos := marked(t, row.s)
		fails(t, s, row.depth, api.ErrDeep, pos)
	}
}

// P7.1: which error is told, goes by what is come to first.
func TestTooDeepAndNotReadable(t *testing.T) {
	for s, errno := range map[string]api.Errno{
		"((@'a)) ]": api.ErrDeep, "((@'a 'b": api.ErrDeep, "('a @'b) (('c))": api.ErrSyntax, "'a @'b (('c))": api.ErrSyntax,
		"'a U 'b U @'c )": api.ErrDeep, "'a U 'b @) (('c))": api.ErrSyntax, "X (@X 'a) 1": api.ErrDeep, "X 'a @1 X X X 'a": api.ErrSyntax,
		// What should stand there is come to ahead of the token that can't.
		"((@]": api.ErrDeep, "!!@": api.ErrDeep, "X X @": api.ErrDeep, "'a => 'b => @)": api.ErrDeep, "'a U 'b U @x": api.ErrDeep,
	} {
		text, pos := marked(t, s)
		fails(t, text, 2, errno, pos)
	}
	// Of several questions, too.
	failsAsk(t, "Pmin=1[!true]; Pmin=1[!!true]; Pmin=0", 2, api.ErrDeep, 24)
	failsAsk(t, "Pmin=1[!true]; Pmin=0[!!true]; Pmin=0", 2, api.ErrSyntax, 20)
}

// P7.1: beyond 64 there is no depth at which a text is read.
func TestTooDeepAtAnyDepth(t *testing.T) {
	for _, s := range []string{"(", "!", "X ", "F ", "G ", "'a=>", "'aU", "'aW", "'aR"} {
		s = quoted(s)
		fails(t, strings.Repeat(s, 64)+`"a"`, 64, api.ErrDeep, 64*len(s))
		failsAsk(t, "Pmin=1["+strings.Repeat(s, 64)+`"a"`, 64, api.ErrDeep, 7+64*len(s))
		whole := strings.Repeat(s, 65536/len(s))
		fails(t, whole, 64, api.ErrDeep, 64*len(s))
	}
}

// P7.1
func TestQuestionsOfEachKind(t *testing.T) {
	for _, kind := range kindsOf {
		asks(t, kind+"['a];", 1, Query{kind, at(7, a), 0})
		spread := " " + kind[:4] + "\n" + kind[4:5] + " " + kind[5:] + "//;\n[ ! 'a ] ; "
		asks(t, spread, 2, Query{kind, at(15, of("!", at(17, a))), 1})
	}
	var s string
	var right []Query
	for _, kind := range kindsOf {
		right = append(right, Query{kind, at(len(s)+9, of("true")), len(s)})
		s += kind + " [ true ]; "
	}
	asks(t, s, 1, right...)
	asks(t, s+s[:16], 1, append(right, Query{"Pmin=1", at(len(s)+9, of("true")), len(s)})...)
}

// P7.1
func TestNoQuestions(t *testing.T) {
	for _, s := range []string{"", " ", "\n\t\r ", "// Pmin=1 [ true ];", "//\n//"} {
		asks(t, s, 1)
	}
}

// P7.1
func TestQuestionsThatCantBe(t *testing.T) {
	for _, s := range []string{
		"Pmin=@0[true];", "Pmax=@0[true];", "Pmin>@1[true];", "Pmax>@1[true];", "Pmin=@01[true];", "Pmax=@01[true];", "Pmin>@00[true];", "Pmax>@00[true];",
		"Pmin=@2[true];", "Pmin>@2[true];", "Pmin=@10[true];", "Pmin=@11[true];", "Pmin=@001[true];", "Pmin>@000[true];", "Pmin>@9223372036854775807[true];",
		"Pmin=@\"1\"[true];", "Pmin>@\"0\"[true];", "Pmin=@x[true];", "Pmin=@-1[true];", "Pmin=@[true];", "Pmin=@", "Pmin>@", "Pmin=@true[true];", "Pmin=1 @1[true];", "Pmin=1@.. [true];",
		"Pmin@<1[true];", "Pmin@>=1[true];", "Pmin@=>1[true];", "Pmin@<=0[true];", "Pmin@!=0[true];", "Pmin=@=1[true];", "Pmin>@>0[true];", "Pmin @1[true];", "Pmin@[true];", "Pmin@", "Pmin @\"=\" 1[true];", "Pmin @Pmax",
		"@P=1[true];", "@pmin=1[true];", "@PMIN=1[true];", "@Pmin1[true];", "@Pmin_=1[true];", "@\"Pmin\"=1[true];", "@Pmin0[true];", "@P[true];", "@=1[true];", "@[true];", "@true;", "@'a", "@;", "@1", "@0", "@X 'a",
		"Pmin=1@true];", "Pmin=1@(true);", "Pmin=1@'a];", "Pmin=1@;", "Pmin=1@]", "Pmin=1@", "Pmin=1 @\"[\" true];",
		"Pmin=1[@];", "Pmin=1[@x];", "Pmin=1[@", "Pmin=1[@;", "Pmin=1[@[true]];", "Pmin=1['a @'b];", "Pmin=1['a &@];", "Pmin=1['a U@];", "Pmin=1['a @)];", "Pmin=1[('a@];", "Pmin=1[@Pmin=1[true];];", "Pmin=1[@1];",
		"Pmin=1[true@", "Pmin=1[true@;", "Pmin=1[true@);", "Pmin=1[true @\"]\";",
		"Pmin=1[true]@", "Pmin=1[true] @", "Pmin=1[true]@]", "Pmin=1[true]@,", "Pmin=1[true] @\";\"", "Pmin=1[true] @Pmin=1[true];", "Pmin=1[true]@& true;", "Pmin=1[true] @U true;", "Pmin=1[true]@:",
		"Pmin=1[true];@;", "Pmin=1[true]; @x", "Pmin=1[true]; @]", "Pmin=1[true]; @'a", "Pmin=1[true]; @[true];", "Pmin=1[true]; @true", "Pmin=1[true]; @1",
		"Pmax>0['a]; Pmin=1[true]@", "Pmax>0['a]; Pmin=@0[true];", "Pmax>0['a]; Pmin=1['a@;", "Pmax>0['a]; Pmin@",
	} {
		failsAskAt(t, s)
	}
}

// P7.1: a formula is no question, and the other way round.
func TestFormulasAndQuestionsAreTwo(t *testing.T) {
	failsAt(t, "@Pmin=1['a];")
	failsAt(t, "'a @[ 'b ]")
	failsAskAt(t, "@'a")
}

// P7.1: the level of a question's formula begins with 1, each time anew.
func TestLevelsOfQuestions(t *testing.T) {
	deep := "Pmax=1[ ((!'a)) ]; "
	for n := 1; n < 5; n++ {
		if l, err := Queries(quoted(strings.Repeat(deep, n)), 4); err != nil || len(l) != n {
			t.Errorf("%d questions: %+v, %v", n, l, err)
		}
		failsAsk(t, quoted(strings.Repeat(deep, n)), 3, api.ErrDeep, 11)
	}
	failsAsk(t, quoted("Pmax=1['a]; Pmax=1[((!'a))];"), 3, api.ErrDeep, 23)
}

// P7.2
func TestPrintOfEachOp(t *testing.T) {
	tells(t, of("true"), "true")
	tells(t, of("false"), "false")
	tells(t, label("// x: 'U' => ("), `"// x: 'U' => ("`)
	tells(t, label("U"), `"U"`)
	tells(t, of("!", a), "!'a")
	for _, op := range prefixes[1:] {
		tells(t, of(op, a), op+" 'a")
		tells(t, of("!", of(op, of("!", a))), "!"+op+" !'a")
		tells(t, of(op, of(op, of("true"))), op+" "+op+" true")
	}
	for _, op := range betweens {
		tells(t, of(op, a, b), "'a "+op+" 'b")
		tells(t, of(op, of("true"), of("false")), "true "+op+" false")
	}
	tells(t, of("!", of("!", of("false"))), "!!false")
}

// ladder: one of each kind, from the loosest on.
func ladder() []Formula {
	return []Formula{
		of("=>", a, b), of("|", a, b), of("&", a, b), of("U", a, b), of("W", a, b), of("R", a, b),
		of("!", a), of("X", a), of("F", a), of("G", a), a, of("true"), of("false"),
	}
}

// P7.2: which of the ladder a kid must reach, so that it stands without
// parentheses.
func TestPrintOfEachKidOfEachOp(t *testing.T) {
	for _, row := range []struct {
		op    string
		kids  []int
		right []string
	}{
		{"=>", []int{1, 0}, []string{"", " => "}},
		{"|", []int{1, 2}, []string{"", " | "}},
		{"&", []int{2, 3}, []string{"", " & "}},
		{"U", []int{6, 3}, []string{"", " U "}},
		{"W", []int{6, 3}, []string{"", " W "}},
		{"R", []int{6, 3}, []string{"", " R "}},
		{"!", []int{6}, []string{"!"}},
		{"X", []int{6}, []string{"X "}},
		{"F", []int{6}, []string{"F "}},
		{"G", []int{6}, []string{"G "}},
	} {
		for place, from := range row.kids {
			for i, kid := range ladder() {
				f, right := of(row.op), ""
				for j := range row.kids {
					f.Kids = append(f.Kids, d)
					told := quoted("'d")
					if j == place {
						f.Kids[j], told = kid, Print(kid)
						if i < from {
							told = "(" + told + ")"
						}
					}
					right += row.right[j] + told
				}
				tells(t, f, right)
			}
		}
	}
}

// P7.2
func TestAsk(t *testing.T) {
	f := of("G", of("=>", a, of("F", b)))
	for _, kind := range kindsOf {
		right := kind + quoted(" [ G ('a => F 'b) ]")
		if s := Ask(Query{kind, f, 99}); s != right {
			t.Errorf("Ask of %q: %q; want %q", kind, s, right)
		}
		// P7.3
		l, err := Queries(right+";", 5)
		if err != nil || len(l) != 1 || l[0].Kind != kind || !Same(l[0].F, f) {
			t.Errorf("Queries(%q): %+v, %v", right, l, err)
		}
	}
	if s := Ask(Query{}); s != " [  ]" {
		t.Errorf("Ask of nothing: %q", s)
	}
	if s := Ask(Query{Kind: "Pmin=1", F: of("|", a, b)}); s != quoted("Pmin=1 [ 'a | 'b ]") {
		t.Errorf("Ask: %q", s)
	}
}

// P7.2
func TestLabels(t *testing.T) {
	for s, right := range map[string][]string{
		"true": nil, "!true U X false": nil,
		"'a": {"a"}, "G !'b": {"b"}, "'a & 'a": {"a"}, "'a U ('b => 'a) | X 'a": {"a", "b"},
		"'d | 'b & 'c U F 'a":                    {"a", "b", "c", "d"},
		"\"true\" | true":                        {"true"},
		"\"b\" R \"B\" W \"a\"":                  {"B", "a", "b"},
		"\"10\" & \"9\" & \"1\" & \"~\" & \" \"": {" ", "1", "10", "9", "~"},
	} {
		f, err := Parse(quoted(s), 9)
		if err != nil {
			t.Fatal(err)
		}
		if l := Labels(f); !slices.Equal(l, right) {
			t.Errorf("Labels(%q): %q; want %q", s, l, right)
		}
	}
	// Of many, in order, each time alike.
	var many Formula
	var right []string
	for i := range 500 {
		many = of("&", of("|", label(strconv.Itoa(i*7919%500)), label(strconv.Itoa(i))), many)
		right = append(right, strconv.Itoa(i))
	}
	slices.Sort(right)
	for range 5 {
		if l := Labels(many); !slices.Equal(l, right) {
			t.Errorf("Labels of many: %q", l)
		}
	}
}

// P7.2
func TestSize(t *testing.T) {
	for _, atom := range []Formula{{}, a, of("true")} {
		if n := Size(atom); n != 1 {
			t.Errorf("Size(%+v): %d", atom, n)
		}
	}
	for s, right := range map[string]int{"!'a": 2, "'a U 'b": 3, "(('a & 'b) | 'c)": 5, "G ('a => F 'b)": 5, "F 'b & 'a & 'b": 6} {
		if f, err := Parse(quoted(s), 9); err != nil || Size(f) != right {
			t.Errorf("Size(%q): %d, %v; want %d", s, Size(f), err, right)
		}
	}
	// Of many: the right number, up to 4097.
	for _, right := range []int{2, 3, 100, 4094, 4095, 4096, 4097, 4098, 4099, 9000} {
		chain, wide := a, of("|", make([]Formula, right-1)...)
		for range right - 1 {
			chain = of("!", chain)
		}
		left := a
		for range (right - 1) / 2 {
			left = of("&", left, b)
		}
		if right%2 == 0 {
			left = of("X", left)
		}
		for _, f := range []Formula{chain, wide, left} {
			if n := Size(f); n != min(right, 4097) {
				t.Errorf("Size: %d; want %d", n, min(right, 4097))
			}
		}
	}
}

// P7.2
func TestSameButForPlaces(t *testing.T) {
	for _, s := range []string{"'a", "true", "!'a", "'a & 'b | 'c", "G ('a => F 'b)", "'a U 'b W 'c R 'd"} {
		one, err := Parse(quoted(s), 9)
		if err != nil {
			t.Fatal(err)
		}
		other, err := Parse(" (  ("+strings.ReplaceAll(quoted(s), " ", "\n\n")+"))", 9)
		if err != nil {
			t.Fatal(err)
		}
		if reflect.DeepEqual(one, other) || !Same(one, other) || !Same(other, one) || !Same(one, one) {
			t.Errorf("Same of %+v and %+v", one, other)
		}
	}
	// A list without items may be nil or empty.
	if !Same(a, Formula{Op: "label", Name: "a", Kids: []Formula{}}) {
		t.Error("Same of a without kids")
	}
}

// P7.2: of these no two are the same.
func TestNotSame(t *testing.T) {
	l := []Formula{
		{}, a, b, label(""), label("A"), of("true"), of("false"), label("true"), of("label", a),
		of("!", a), of("!", b), of("!"), of("!", a, a), of("X", a), of("F", a), of("G", a),
		of("&", a, b), of("&", b, a), of("&", a, c), of("&", c, b), of("&", a), of("&", a, b, c), of("|", a, b), of("=>", a, b), of("U", a, b), of("W", a, b), of("R", a, b),
		of("&", of("&", a, b), c), of("&", a, of("&", b, c)), of("&", of("|", a, b), c), of("X", of("X", a)), of("X", of("X", b)), of("X", of("F", a)),
		{Op: "true", Name: "x"}, {Op: "U", Name: "x", Kids: []Formula{a, b}},
	}
	for i, x := range l {
		for j, y := range l {
			if Same(x, y) != (i == j) {
				t.Errorf("Same(%+v, %+v): %v", x, y, Same(x, y))
			}
		}
	}
}

// P7.2, R1: whatever is in it, each call answers.
func TestFormulasThatCantBe(t *testing.T) {
	for _, op := range append([]string{"", "x", "!", "X", "F", "G", "label", "true", "false", "(", "\"", "\xff"}, betweens...) {
		for kids := range 6 {
			f := Formula{Op: op, Name: "\x00\xff\"", Pos: math.MinInt}
			for range kids {
				f.Kids = append(f.Kids, of(op), Formula{})
			}
			Print(f)
			Ask(Query{Kind: "\x00", F: f, Pos: math.MaxInt})
			if n := Size(f); n != 1+2*kids {
				t.Errorf("Size(%+v): %d", f, n)
			}
			if !Same(f, f) || Same(f, of("!", f)) {
				t.Errorf("Same of %+v", f)
			}
			if l := Labels(f); slices.Contains(l, f.Name) != (op == "label") {
				t.Errorf("Labels(%+v): %q", f, l)
			}
		}
	}
}

// R4: what is handed in stays as it is, and what is told lies apart from it.
func TestNothingIsShared(t *testing.T) {
	text := quoted("!('a U 'b) & 'c => G ('b | 'a) R true")
	f, err := Parse(text, 9)
	if err != nil {
		t.Fatal(err)
	}
	copied, told := deepCopy(f), Print(f)
	Size(f)
	Same(f, copied)
	Ask(Query{"Pmin=1", f, 0})
	Labels(f)[0] = "z"
	if !reflect.DeepEqual(f, copied) || !slices.Equal(Labels(f), []string{"a", "b", "c"}) {
		t.Errorf("changed: %+v; was %+v", f, copied)
	}
	// Size counts in a list of its own, even if the kids' has room behind it.
	room := append(make([]Formula, 0, 8), a, of("!", b))
	behind := room[:4]
	behind[2], behind[3] = c, d
	Size(of("&", room...))
	Size(of("&", d, of("|", room...)))
	if !Same(behind[2], c) || !Same(behind[3], d) || !Same(behind[1], of("!", b)) {
		t.Errorf("changed behind the kids: %+v", behind)
	}
	// A second reading has lists of its own.
	again, err := Parse(text, 9)
	if err != nil {
		t.Fatal(err)
	}
	spoil(again)
	if !reflect.DeepEqual(f, copied) || Print(f) != told {
		t.Errorf("spoilt: %+v; was %+v", f, copied)
	}
}

// deepCopy: with lists of its own.
func deepCopy(f Formula) Formula {
	var kids []Formula
	for _, kid := range f.Kids {
		kids = append(kids, deepCopy(kid))
	}
	f.Kids = kids
	return f
}

// spoil: all that lies in lists is made another.
func spoil(f Formula) {
	for i := range f.Kids {
		spoil(f.Kids[i])
		f.Kids[i] = label("spoilt")
	}
}
