package expr

import (
	"errors"
	"math"
	"reflect"
	"strconv"
	"strings"
	"testing"

	"sortilege/api"
	"sortilege/scan"
)

// comparisons: their signs.
var comparisons = []string{"=", "!=", "<", "<=", ">", ">="}

// num, name and of: expressions without a place.
func num(n int64) Expr                    { return Expr{Op: "num", N: n} }
func name(s string) Expr                  { return Expr{Op: "name", Name: s} }
func of(op string, kids ...Expr) Expr     { return Expr{Op: op, Kids: kids} }
func at(pos int, e Expr) Expr             { e.Pos = pos; return e }
func isPlain(err error, e api.Errno) bool { return err == error(e) }

// Some of them, for short.
var (
	a = name("a")
	b = name("b")
	c = name("c")
	d = name("d")
)

// isAt: an error at a place, as errors.Is and errors.As tell it.
func isAt(err error, errno api.Errno, pos int) bool {
	var at *api.At
	return errors.Is(err, errno) && errors.As(err, &at) && at.Pos == pos
}

// isZero: is nothing told?
func isZero(e Expr) bool {
	return reflect.DeepEqual(e, Expr{})
}

// short: a text as it may be shown.
func short(s string) string {
	if len(s) > 80 {
		return strconv.Quote(s[:80]) + " and on, of " + strconv.Itoa(len(s)) + " bytes"
	}
	return strconv.Quote(s)
}

// bare: an expression without its places, and without lists that are empty, so
// that reflect.DeepEqual compares the rest.
func bare(e Expr) Expr {
	var kids []Expr
	for _, kid := range e.Kids {
		kids = append(kids, bare(kid))
	}
	e.Kids, e.Pos = kids, 0
	return e
}

// reads: a text is read as this, whatever the places.
func reads(t *testing.T, s string, right Expr) {
	t.Helper()
	if e, err := Parse(s, 64); err != nil || !reflect.DeepEqual(bare(e), bare(right)) {
		t.Errorf("Parse(%s): %+v, %v; want %+v", short(s), e, err, right)
	}
}

// readsAt: a text is read as this, with these places.
func readsAt(t *testing.T, s string, right Expr) {
	t.Helper()
	if e, err := Parse(s, 64); err != nil || !reflect.DeepEqual(e, right) {
		t.Errorf("Parse(%s): %+v, %v; want %+v", short(s), e, err, right)
	}
}

// fails: a text can't be read, by this error at this place, and nothing else
// is told.
func fails(t *testing.T, s string, depth int, errno api.Errno, pos int) {
	t.Helper()
	if e, err := Parse(s, depth); !isZero(e) || !isAt(err, errno, pos) {
		t.Errorf("Parse(%s, %d): %+v, %v; want %d at %d", short(s), depth, e, err, errno, pos)
	}
}

// tells: an expression is told so, and the text is read as the same again.
func tells(t *testing.T, e Expr, right string) {
	t.Helper()
	if s := Print(e); s != right {
		t.Errorf("Print(%+v): %q; want %q", e, s, right)
	}
	reads(t, right, e)
}

// newReader: of a text that scan reads.
func newReader(t *testing.T, s string) *scan.Reader {
	t.Helper()
	r, err := scan.New(s)
	if err != nil {
		t.Fatalf("scan.New(%s): %v", short(s), err)
	}
	return r
}

// P5.1
func TestTheChaptersExample(t *testing.T) {
	x, y, z := name("x"), name("y"), name("z")
	left := of("!", of("=", x, num(1)))
	right := of("<", of("*", of("neg", of("+", y, num(2))), num(3)), z)
	tells(t, of("&", left, right), "!x = 1 & -(y + 2) * 3 < z")
}

// P5.1
func TestDepthsThatCantBe(t *testing.T) {
	for _, depth := range []int{math.MinInt, -64, -1, 0, 65, 66, 128, math.MaxInt} {
		// ErrArg comes ahead of what else is wrong.
		for _, s := range []string{"a", "", "a b", "#", "\"", "99999999999999999999", strings.Repeat(" ", 65537)} {
			if e, err := Parse(s, depth); !isZero(e) || !isPlain(err, api.ErrArg) {
				t.Errorf("Parse(%s, %d): %+v, %v", short(s), depth, e, err)
			}
		}
		r := newReader(t, "a")
		if e, err := Read(r, depth); !isZero(e) || !isPlain(err, api.ErrArg) || r.Peek().Text != "a" {
			t.Errorf("Read(.., %d): %+v, %v", depth, e, err)
		}
		if e, err := Read(nil, depth); !isZero(e) || !isPlain(err, api.ErrArg) {
			t.Errorf("Read(nil, %d): %+v, %v", depth, e, err)
		}
	}
}

// P5.1
func TestDepthsThatMayBe(t *testing.T) {
	for depth := 1; depth <= 64; depth++ {
		if e, err := Parse("a", depth); err != nil || !Same(e, a) {
			t.Errorf("Parse(a, %d): %+v, %v", depth, e, err)
		}
		if e, err := Read(newReader(t, "a"), depth); err != nil || !Same(e, a) {
			t.Errorf("Read(a, %d): %+v, %v", depth, e, err)
		}
		if e, err := Read(nil, depth); !isZero(e) || !isPlain(err, api.ErrNil) {
			t.Errorf("Read(nil, %d): %+v, %v", depth, e, err)
		}
	}
}

// P5.1
func TestTextsThatScanRefuses(t *testing.T) {
	if e, err := Parse(strings.Repeat(" ", 65537), 9); !isZero(e) || !isPlain(err, api.ErrLong) {
		t.Errorf("Parse of too many bytes: %+v, %v", e, err)
	}
	fails(t, strings.Repeat(" ", 65536), 9, api.ErrSyntax, 65536)
	reads(t, strings.Repeat(" ", 65535)+"a", a)
	fails(t, "#", 9, api.ErrSyntax, 0)
	fails(t, "a + \"", 9, api.ErrSyntax, 4)
	fails(t, "9223372036854775808", 9, api.ErrOver, 0)
	fails(t, "a + 9223372036854775808", 9, api.ErrOver, 4)
	// The whole text is read as tokens ahead of the first expression.
	fails(t, ") ((a)) #", 1, api.ErrSyntax, 8)
	fails(t, "a b 9223372036854775808", 1, api.ErrOver, 4)
}

// P5.1
func TestAtoms(t *testing.T) {
	reads(t, "0", num(0))
	reads(t, "007", num(7))
	reads(t, "9223372036854775807", num(math.MaxInt64))
	reads(t, "true", of("true"))
	reads(t, "false", of("false"))
	reads(t, "(a)", a)
	reads(t, "(((((1)))))", num(1))
	reads(t, " // a\n ( a // )\n ) // b", a)
	// The words of models and of Ops are names like others.
	for _, s := range []string{"x", "_", "True", "FALSE", "true1", "_false", "num", "name", "neg", "mdp", "init", "bool", "U", "x0_9"} {
		reads(t, s, name(s))
	}
}

// P5.1: each kind has the next tighter one as a part, without parentheses.
func TestEachKindBesideTheNextTighterOne(t *testing.T) {
	reads(t, "a => b ? c => d : a => c", of("?", of("=>", a, b), of("=>", c, d), of("=>", a, c)))
	reads(t, "a | b => c | d", of("=>", of("|", a, b), of("|", c, d)))
	reads(t, "a & b | c & d", of("|", of("&", a, b), of("&", c, d)))
	reads(t, "!a & !b", of("&", of("!", a), of("!", b)))
	for _, sign := range comparisons {
		reads(t, "!a "+sign+" b", of("!", of(sign, a, b)))
		reads(t, "a + b "+sign+" c - d", of(sign, of("+", a, b), of("-", c, d)))
	}
	reads(t, "a * b + c * d", of("+", of("*", a, b), of("*", c, d)))
	reads(t, "a * b - c * d", of("-", of("*", a, b), of("*", c, d)))
	reads(t, "-a * -b", of("*", of("neg", a), of("neg", b)))
	reads(t, "-1", of("neg", num(1)))
	reads(t, "-(a)", of("neg", a))
}

// P5.1: what is looser stands in parentheses, or reaches further.
func TestEachKindBesideALooserOne(t *testing.T) {
	reads(t, "(a ? b : c) => d", of("=>", of("?", a, b, c), d))
	reads(t, "a => (b ? c : d)", of("=>", a, of("?", b, c, d)))
	reads(t, "a => b ? c : d", of("?", of("=>", a, b), c, d))
	reads(t, "(a => b) | c", of("|", of("=>", a, b), c))
	reads(t, "a | (b => c)", of("|", a, of("=>", b, c)))
	reads(t, "(a | b) & c", of("&", of("|", a, b), c))
	reads(t, "a & (b | c)", of("&", a, of("|", b, c)))
	reads(t, "!(a & b)", of("!", of("&", a, b)))
	reads(t, "!a & b", of("&", of("!", a), b))
	reads(t, "(!a) = b", of("=", of("!", a), b))
	reads(t, "a = (!b)", of("=", a, of("!", b)))
	reads(t, "(a = b) + c", of("+", of("=", a, b), c))
	reads(t, "a + (b = c)", of("+", a, of("=", b, c)))
	reads(t, "(a = b) = c", of("=", of("=", a, b), c))
	reads(t, "a = (b = c)", of("=", a, of("=", b, c)))
	reads(t, "(a + b) * c", of("*", of("+", a, b), c))
	reads(t, "a * (b - c)", of("*", a, of("-", b, c)))
	reads(t, "-(a * b)", of("neg", of("*", a, b)))
	reads(t, "-a * b", of("*", of("neg", a), b))
	reads(t, "-a + b", of("+", of("neg", a), b))
	reads(t, "-(!a)", of("neg", of("!", a)))
}

// P5.1
func TestChains(t *testing.T) {
	for _, sign := range []string{"|", "&", "+", "-", "*"} {
		reads(t, "a"+sign+"b"+sign+"c"+sign+"d", of(sign, of(sign, of(sign, a, b), c), d))
		reads(t, "a"+sign+"(b"+sign+"c)", of(sign, a, of(sign, b, c)))
	}
	reads(t, "a - b + c - d", of("-", of("+", of("-", a, b), c), d))
	reads(t, "a + b - c + d", of("+", of("-", of("+", a, b), c), d))
	reads(t, "a => b => c => d", of("=>", a, of("=>", b, of("=>", c, d))))
	reads(t, "(a => b) => c", of("=>", of("=>", a, b), c))
	reads(t, "a ? b : c ? d : a", of("?", a, b, of("?", c, d, a)))
	reads(t, "a ? b ? c : d : a", of("?", a, of("?", b, c, d), a))
	reads(t, "(a ? b : c) ? d : a", of("?", of("?", a, b, c), d, a))
	reads(t, "!!!a", of("!", of("!", of("!", a))))
	reads(t, "---a", of("neg", of("neg", of("neg", a))))
	reads(t, "a - -b - - -c", of("-", of("-", a, of("neg", b)), of("neg", of("neg", c))))
	reads(t, "!-a", of("!", of("neg", a)))
	reads(t, "a <- b", of("<", a, of("neg", b)))
}

// P5.1: a chain needs no depth, so it may be as long as a text.
func TestLongChains(t *testing.T) {
	for _, sign := range []string{"|", "&", "+", "-", "*"} {
		s := strings.Repeat("a"+sign, 32767) + "a"
		e, err := Parse(s, 1)
		if err != nil || e.Op != sign || e.Pos != 0 || len(e.Kids) != 2 || e.Kids[1].Pos != 65534 {
			t.Fatalf("Parse(%s): %v", short(s), err)
		}
		if told := Print(e); told != strings.ReplaceAll(s, sign, " "+sign+" ") {
			t.Errorf("Print: %s", short(told))
		}
		if n := Size(e); n != 4097 {
			t.Errorf("Size: %d", n)
		}
		if !Same(e, e) || Same(e, e.Kids[0]) {
			t.Errorf("Same of %s", short(s))
		}
	}
}

// P5.1
func TestTheFirstTokenThatCantStandThere(t *testing.T) {
	for _, row := range []struct {
		s   string
		pos int
	}{
		// The end among them.
		{"", 0}, {"  ", 2}, {"// a", 4}, {"!", 1}, {"-", 1}, {"- ", 2}, {"(", 1}, {"(a", 2}, {"((a)", 4},
		{"a +", 3}, {"a -", 3}, {"a *", 3}, {"a =", 3}, {"a <=", 4}, {"a &", 3}, {"a |", 3}, {"a =>", 4},
		{"a ?", 3}, {"a ? b", 5}, {"a ? b :", 7}, {"a ? b ? c : d", 13},
		// Those with which nothing begins.
		{")", 0}, {"]", 0}, {"[a]", 0}, {":", 0}, {";", 0}, {",", 0}, {"'", 0}, {"..", 0}, {"->", 0}, {"? a : b", 0},
		{"+ a", 0}, {"* a", 0}, {"= a", 0}, {"!= a", 0}, {"< a", 0}, {"& a", 0}, {"| a", 0}, {"=> a", 0},
		{"\"a\"", 0}, {"\"+\"", 0}, {"()", 1}, {"(())", 2}, {"a + + b", 4}, {"a * * b", 4}, {"a & | b", 4},
		{"a + !b", 4}, {"a = !b", 4}, {"a * !b", 4}, {"-!a", 1}, {"- !a", 2}, {"a + \"b\"", 4}, {"!)", 1},
		// Those behind a whole one.
		{"a b", 2}, {"a 1", 2}, {"1 a", 2}, {"1 2", 2}, {"a true", 2}, {"a (b)", 2}, {"a !b", 2}, {"a ! = b", 2},
		{"(a) b", 4}, {"(a b)", 3}, {"a)", 1}, {"(a))", 3}, {"a ]", 2}, {"a;", 1}, {"a -> b", 2}, {"a'", 1},
		{"a .. b", 2}, {"a : b", 2}, {"a \"b\"", 2}, {"a ? b : c : d", 10}, {"(a ? b)", 6}, {"(a : b)", 3},
		{"a \"+\" b", 2}, {"a \"=\" b", 2}, {"a ? b \":\" c", 6}, {"a \"?\" b : c", 2}, {"a \"=>\" b", 2}, {"(a \")\"", 3},
		// A second comparison.
		{"a = b = c", 6}, {"a < b < c", 6}, {"a = b != c", 6}, {"!a = b = c", 7}, {"(a = b = c)", 7}, {"a & b = c >= d", 10},
		// Signs that are none here, or two.
		{"a' = b", 1}, {"a == b", 3}, {"a && b", 3}, {"a || b", 3}, {"a =! b", 3}, {"a <> b", 3},
	} {
		fails(t, row.s, 64, api.ErrSyntax, row.pos)
	}
}

// P5.1: Read goes as far as the expression does, and stays there.
func TestReadStaysBehindIt(t *testing.T) {
	for _, row := range []struct {
		s     string
		right Expr
		pos   int
	}{
		{"a", a, 1}, {"a ", a, 2}, {"a b", a, 2}, {" a ]", a, 3}, {"a -> b", a, 2}, {"a .. b", a, 2}, {"a;b", a, 1}, {"a : b", a, 2},
		{"a) + b", a, 1}, {"(a) b", a, 4}, {"a !b", a, 2}, {"a (b)", a, 2}, {"a \"b\"", a, 2}, {"a \"+\" b", a, 2},
		{"a = b = c", of("=", a, b), 6}, {"a + b c", of("+", a, b), 6}, {"a ? b : c : d", of("?", a, b, c), 10},
		{"a => b, c", of("=>", a, b), 6}, {"-a 1", of("neg", a), 3}, {"!a !b", of("!", a), 3}, {"a' = b", a, 1},
	} {
		r := newReader(t, row.s)
		e, err := Read(r, 64)
		if err != nil || !reflect.DeepEqual(bare(e), bare(row.right)) || r.Peek().Pos != row.pos {
			t.Errorf("Read(%q): %+v, %v, at %d; want %+v, at %d", row.s, e, err, r.Peek().Pos, row.right, row.pos)
		}
	}
}

// P5.1: one behind the other, from where the reader is.
func TestReadGoesOn(t *testing.T) {
	r := newReader(t, "[a + 1] [(b)]")
	for _, right := range []Expr{
		at(1, of("+", at(1, a), at(5, num(1)))),
		at(9, b),
	} {
		if err := r.Want("["); err != nil {
			t.Fatal(err)
		}
		if e, err := Read(r, 2); err != nil || !reflect.DeepEqual(e, right) {
			t.Errorf("Read: %+v, %v; want %+v", e, err, right)
		}
		if err := r.Want("]"); err != nil {
			t.Fatal(err)
		}
	}
	if e, err := Read(r, 2); !isZero(e) || !isAt(err, api.ErrSyntax, 13) {
		t.Errorf("Read at the end: %+v, %v", e, err)
	}
}

// P5.1, R1: a reader that New didn't make is at an end.
func TestReadWithoutTokens(t *testing.T) {
	if e, err := Read(&scan.Reader{}, 9); !isZero(e) || !isAt(err, api.ErrSyntax, 0) {
		t.Errorf("Read: %+v, %v", e, err)
	}
}

// P5.1: Read tells nothing beside an error.
func TestReadFails(t *testing.T) {
	for s, pos := range map[string]int{"": 0, "a +": 3, "(a b)": 3, "a ? b": 5, "a ? b : )": 8, "a => ]": 5, "! & a": 2, "\"a\"": 0} {
		if e, err := Read(newReader(t, s), 9); !isZero(e) || !isAt(err, api.ErrSyntax, pos) {
			t.Errorf("Read(%q): %+v, %v", s, e, err)
		}
	}
	if e, err := Read(newReader(t, "((a))"), 2); !isZero(e) || !isAt(err, api.ErrDeep, 2) {
		t.Errorf("Read: %+v, %v", e, err)
	}
}

// P5.1
func TestPlaces(t *testing.T) {
	readsAt(t, " a", at(1, a))
	readsAt(t, " 12", at(1, num(12)))
	readsAt(t, "\n true", at(2, of("true")))
	readsAt(t, "- a", at(0, of("neg", at(2, a))))
	readsAt(t, " !a", at(1, of("!", at(2, a))))
	// With a left side.
	readsAt(t, " a + b", at(1, of("+", at(1, a), at(5, b))))
	readsAt(t, "a-b-c", at(0, of("-", at(0, of("-", at(0, a), at(2, b))), at(4, c))))
	readsAt(t, "a=>b=>c", at(0, of("=>", at(0, a), at(3, of("=>", at(3, b), at(6, c))))))
	readsAt(t, " a=b", at(1, of("=", at(1, a), at(3, b))))
	readsAt(t, " a?b:c", at(1, of("?", at(1, a), at(3, b), at(5, c))))
	readsAt(t, "-a*b", at(0, of("*", at(0, of("neg", at(1, a))), at(3, b))))
	readsAt(t, "!a&b", at(0, of("&", at(0, of("!", at(1, a))), at(3, b))))
	readsAt(t, "c|!a=b", at(0, of("|", at(0, c), at(2, of("!", at(3, of("=", at(3, a), at(5, b))))))))
	// Alone in parentheses.
	readsAt(t, " (a)", at(1, a))
	readsAt(t, "( a+b)", at(0, of("+", at(2, a), at(4, b))))
	readsAt(t, "(-a)", at(0, of("neg", at(2, a))))
	readsAt(t, "c*(a+b)", at(0, of("*", at(0, c), at(2, of("+", at(3, a), at(5, b))))))
	readsAt(t, "-(a)", at(0, of("neg", at(1, a))))
	// Several about it alone.
	readsAt(t, " ( ( (a)))", at(1, a))
	readsAt(t, "((a+b))", at(0, of("+", at(2, a), at(4, b))))
	readsAt(t, "(a?((b)):(c))", at(0, of("?", at(1, a), at(3, b), at(9, c))))
	// About a left side, and not alone.
	readsAt(t, "(a)+b", at(0, of("+", at(0, a), at(4, b))))
	readsAt(t, "((a)+b)*c", at(0, of("*", at(0, of("+", at(1, a), at(5, b))), at(8, c))))
	readsAt(t, "(((a)+b)*c)", at(0, of("*", at(1, of("+", at(2, a), at(6, b))), at(9, c))))
}

// P5.1: at a row's depth its text is read; at one below it, it is too deep at
// the place.
func TestDepths(t *testing.T) {
	for _, row := range []struct {
		s          string
		depth, pos int
	}{
		{"(a)", 2, 1}, {"((a))", 3, 2}, {"( a + b )", 2, 2}, {"a + (b)", 2, 5}, {"(a) + (b)", 2, 1}, {"(a) + ((b))", 3, 8},
		{"!a", 2, 1}, {"!!a", 3, 2}, {"! a = b", 2, 2}, {"!(a)", 3, 2}, {"a & !b", 2, 5}, {"!a & !!b", 3, 7},
		{"-a", 2, 1}, {"--a", 3, 2}, {"-(a)", 3, 2}, {"a - -b", 2, 5}, {"-a * --b", 3, 7}, {"!-a", 3, 2},
		{"a => b", 2, 5}, {"a => b => c", 3, 10}, {"(a) => b", 2, 1}, {"(a => b) => c", 3, 6}, {"a => !b", 3, 6}, {"a => b | c & d = a + b * c", 2, 5},
		{"a ? b : c", 2, 4}, {"a ? b : c ? d : a", 3, 12}, {"a ? b ? c : d : a", 3, 8}, {"a ? b : (c)", 3, 9}, {"a ? (b) : c", 3, 5},
		{"a ? b => c : d", 3, 9}, {"a ? b : c => d", 3, 13}, {"a => b ? c : d", 2, 5}, {"a ? !b : c", 3, 5}, {"(a ? b : c) ? d : a", 3, 5},
		{"a + b - c * d = a & b | c", 1, -1}, {"1 < 2 & true | false", 1, -1},
		{strings.Repeat("(", 63) + "a" + strings.Repeat(")", 63), 64, 63},
		{strings.Repeat("!", 63) + "a", 64, 63},
		{strings.Repeat("-", 63) + "a", 64, 63},
		{strings.Repeat("a=>", 63) + "a", 64, 189},
		{strings.Repeat("a?a:", 63) + "a", 64, 250},
		{strings.Repeat("a?", 63) + "a" + strings.Repeat(":a", 63), 64, 126},
	} {
		for depth := row.depth; depth <= 64; depth++ {
			if _, err := Parse(row.s, depth); err != nil {
				t.Errorf("Parse(%s, %d): %v", short(row.s), depth, err)
			}
		}
		if row.depth > 1 {
			fails(t, row.s, row.depth-1, api.ErrDeep, row.pos)
		}
	}
}

// P5.1: beyond 64 there is no depth at which a text is read.
func TestTooDeepAtAnyDepth(t *testing.T) {
	fails(t, strings.Repeat("(", 64)+"a"+strings.Repeat(")", 64), 64, api.ErrDeep, 64)
	fails(t, strings.Repeat("!", 64)+"a", 64, api.ErrDeep, 64)
	fails(t, strings.Repeat("-", 64)+"a", 64, api.ErrDeep, 64)
	fails(t, strings.Repeat("a=>", 64)+"a", 64, api.ErrDeep, 192)
	fails(t, strings.Repeat("a?a:", 64)+"a", 64, api.ErrDeep, 254)
	for _, sign := range []string{"(", "!", "-", "a=>", "a?", "a?a:", "(-", "a&!("} {
		s := strings.Repeat(sign, 65536/len(sign))
		if e, err := Parse(s, 64); !isZero(e) || !errors.Is(err, api.ErrDeep) {
			t.Errorf("Parse(%s): %+v, %v", short(s), e, err)
		}
	}
}

// P5.1: which error is told, goes by what is come to first.
func TestTooDeepAndNotReadable(t *testing.T) {
	fails(t, "((a)) ]", 2, api.ErrDeep, 2)
	fails(t, "((a b", 2, api.ErrDeep, 2)
	fails(t, "(a b) ((c))", 2, api.ErrSyntax, 3)
	fails(t, "a b ((c))", 2, api.ErrSyntax, 2)
	fails(t, "a = b = ((c))", 2, api.ErrSyntax, 6)
	// What should stand there is come to ahead of the token that can't.
	fails(t, "(]", 1, api.ErrDeep, 1)
	fails(t, "!", 1, api.ErrDeep, 1)
	fails(t, "- ", 1, api.ErrDeep, 2)
	fails(t, "a => )", 1, api.ErrDeep, 5)
	fails(t, "a ? \"b\"", 1, api.ErrDeep, 4)
}

// P5.2
func TestPrintOfEachKind(t *testing.T) {
	tells(t, num(0), "0")
	tells(t, num(math.MaxInt64), "9223372036854775807")
	tells(t, name("x_1"), "x_1")
	tells(t, of("true"), "true")
	tells(t, of("false"), "false")
	tells(t, of("neg", a), "-a")
	tells(t, of("neg", num(1)), "-1")
	tells(t, of("!", a), "!a")
	for _, sign := range append([]string{"=>", "|", "&", "+", "-", "*"}, comparisons...) {
		tells(t, of(sign, a, b), "a "+sign+" b")
	}
	tells(t, of("?", a, b, c), "a ? b : c")
	// What fold makes of constants is told as it is.
	if s := Print(of("*", num(-3), num(math.MinInt64))); s != "-3 * -9223372036854775808" {
		t.Errorf("Print of numbers below 0: %q", s)
	}
}

// ladder: one of each kind, from the loosest on.
func ladder() []Expr {
	return []Expr{
		of("?", a, b, c), of("=>", a, b), of("|", a, b), of("&", a, b), of("!", a),
		of("=", a, b), of("+", a, b), of("*", a, b), of("neg", a), a,
	}
}

// P5.2: which of the ladder a kid must reach, so that it stands without
// parentheses.
func TestPrintOfEachKidOfEachKind(t *testing.T) {
	for _, row := range []struct {
		op    string
		kids  []int
		right []string
	}{
		{"?", []int{1, 0, 0}, []string{"", " ? ", " : "}},
		{"=>", []int{2, 1}, []string{"", " => "}},
		{"|", []int{2, 3}, []string{"", " | "}},
		{"&", []int{3, 4}, []string{"", " & "}},
		{"!", []int{4}, []string{"!"}},
		{"=", []int{6, 6}, []string{"", " = "}},
		{"!=", []int{6, 6}, []string{"", " != "}},
		{"<", []int{6, 6}, []string{"", " < "}},
		{"<=", []int{6, 6}, []string{"", " <= "}},
		{">", []int{6, 6}, []string{"", " > "}},
		{">=", []int{6, 6}, []string{"", " >= "}},
		{"+", []int{6, 7}, []string{"", " + "}},
		{"-", []int{6, 7}, []string{"", " - "}},
		{"*", []int{7, 8}, []string{"", " * "}},
		{"neg", []int{8}, []string{"-"}},
	} {
		for place, from := range row.kids {
			for i, kid := range ladder() {
				e, right := of(row.op), ""
				for j := range row.kids {
					e.Kids = append(e.Kids, d)
					told := "d"
					if j == place {
						e.Kids[j], told = kid, Print(kid)
						if i < from {
							told = "(" + told + ")"
						}
					}
					right += row.right[j] + told
				}
				tells(t, e, right)
			}
		}
	}
}

// P5.2, R1: whatever is in it, Print, Size and Same answer.
func TestExpressionsThatCantBe(t *testing.T) {
	for _, op := range append([]string{"", "x", "?", "=>", "|", "&", "!", "+", "-", "*", "neg", "num", "name", "true", ":", "(", "\xff"}, comparisons...) {
		for kids := range 6 {
			e := Expr{Op: op, Name: "\x00\xff", N: math.MinInt64, Pos: math.MinInt}
			for range kids {
				e.Kids = append(e.Kids, of(op), Expr{})
			}
			Print(e)
			if n := Size(e); n != 1+2*kids {
				t.Errorf("Size(%+v): %d", e, n)
			}
			if !Same(e, e) || Same(e, of("!", e)) {
				t.Errorf("Same of %+v", e)
			}
		}
	}
}

// P5.2
func TestSize(t *testing.T) {
	for _, atom := range []Expr{{}, a, num(3), of("true")} {
		if n := Size(atom); n != 1 {
			t.Errorf("Size(%+v): %d", atom, n)
		}
	}
	for s, right := range map[string]int{"-a": 2, "a + b": 3, "a ? b : c": 4, "((a + b) * c)": 5, "!x = 1 & -(y + 2) * 3 < z": 13} {
		if e, err := Parse(s, 9); err != nil || Size(e) != right {
			t.Errorf("Size(%q): %d, %v; want %d", s, Size(e), err, right)
		}
	}
	// Of many: the right number, up to 4097.
	for _, right := range []int{4094, 4095, 4096, 4097, 4098, 4099, 5000} {
		chain, wide := a, of("+", make([]Expr, right-1)...)
		for range right - 1 {
			chain = of("!", chain)
		}
		for _, e := range []Expr{chain, wide, of("+", chain.Kids[0].Kids[0], a)} {
			if n := Size(e); n != min(right, 4097) {
				t.Errorf("Size: %d; want %d", n, min(right, 4097))
			}
		}
	}
}

// P5.2
func TestSameButForPlaces(t *testing.T) {
	for _, s := range []string{"a", "7", "true", "-a", "a + b * 2", "!a = b & c", "a ? b => c : d | true"} {
		one, err := Parse(s, 9)
		if err != nil {
			t.Fatal(err)
		}
		other, err := Parse(" (  ("+strings.ReplaceAll(s, " ", "\n\n")+"))", 9)
		if err != nil {
			t.Fatal(err)
		}
		if !Same(one, other) || !Same(other, one) || !Same(one, one) {
			t.Errorf("Same of %+v and %+v", one, other)
		}
	}
	// A list without items may be nil or empty.
	if !Same(a, Expr{Op: "name", Name: "a", Kids: []Expr{}}) {
		t.Error("Same of a without kids")
	}
}

// P5.2: of these no two are the same.
func TestNotSame(t *testing.T) {
	l := []Expr{
		{}, a, b, num(0), num(1), num(-1), name(""), name("A"), of("true"), of("false"), name("true"),
		of("neg", a), of("!", a), of("!", b), of("!"), of("!", a, a), of("-", a, b), of("+", a, b), of("+", b, a), of("+", a, c),
		of("+", a), of("+", a, b, c), of("?", a, b, c), of("?", a, b, d), of("?", a, d, c), of("?", d, b, c),
		of("+", of("+", a, b), c), of("+", a, of("+", b, c)), of("+", of("-", a, b), c), of("!", num(1)), of("!", num(2)),
		{Op: "num", N: 1, Name: "x"}, {Op: "name", N: 1, Name: "a"},
	}
	for i, x := range l {
		for j, y := range l {
			if Same(x, y) != (i == j) {
				t.Errorf("Same(%+v, %+v): %v", x, y, Same(x, y))
			}
		}
	}
}
