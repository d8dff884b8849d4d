package value

import (
	"cmp"
	"errors"
	"math"
	"math/big"
	"reflect"
	"slices"
	"strconv"
	"testing"

	"sortilege/api"
	"sortilege/expr"
)

const (
	least    = math.MinInt64
	greatest = math.MaxInt64
	// root is the greatest number whose square is one of 64 bits.
	root = 3037000499
)

// The Ops with two kids, by what they take.
var (
	sums        = []string{"+", "-", "*"}
	comparisons = []string{"<", "<=", ">", ">="}
	equalities  = []string{"=", "!="}
	junctions   = []string{"&", "|", "=>"}
)

// opsOf: all Ops with that many kids.
func opsOf(kids int) []string {
	switch kids {
	case 0:
		return []string{"num", "name", "true", "false"}
	case 1:
		return []string{"neg", "!"}
	case 2:
		return slices.Concat(sums, comparisons, equalities, junctions)
	case 3:
		return []string{"?"}
	}
	return nil
}

// num, name, word, of and at: expressions, of which only at's has a place.
func num(n int64) expr.Expr                     { return expr.Expr{Op: "num", N: n} }
func name(s string) expr.Expr                   { return expr.Expr{Op: "name", Name: s} }
func word(is bool) expr.Expr                    { return of(strconv.FormatBool(is)) }
func of(op string, kids ...expr.Expr) expr.Expr { return expr.Expr{Op: op, Kids: kids} }
func at(pos int, e expr.Expr) expr.Expr         { e.Pos = pos; return e }

// bindings: those that the tests ask, unless they have others.
func bindings() []Bind {
	return []Bind{
		{"x", Number(3)}, {"y", Number(-5)}, {"zero", Number(0)},
		{"yes", Truth(true)}, {"no", Truth(false)},
		{"top", Number(greatest)}, {"low", Number(least)},
	}
}

// read: an expression with its places.
func read(t *testing.T, s string) expr.Expr {
	t.Helper()
	e, err := expr.Parse(s, 64)
	if err != nil {
		t.Fatalf("expr.Parse(%q): %v", s, err)
	}
	return e
}

// isAt: an error at a place, as errors.Is and errors.As tell it.
func isAt(err error, errno api.Errno, pos int) bool {
	var at *api.At
	return errors.Is(err, errno) && errors.As(err, &at) && at.Pos == pos
}

// short: an expression as it may be shown.
func short(e expr.Expr) string {
	s := expr.Print(e)
	if len(s) > 80 {
		return strconv.Quote(s[:80]) + " and on, of " + strconv.Itoa(len(s)) + " bytes"
	}
	return strconv.Quote(s)
}

// worth: an expression is worth this.
func worth(t *testing.T, e expr.Expr, l []Bind, right Value) {
	t.Helper()
	if v, err := Eval(e, l); v != right || err != nil {
		t.Fatalf("Eval(%s, %v): %+v, %v; want %+v", short(e), l, v, err, right)
	}
}

// wrongAt: an expression has this error at this place, and nothing else is told.
func wrongAt(t *testing.T, e expr.Expr, l []Bind, errno api.Errno, pos int) {
	t.Helper()
	if v, err := Eval(e, l); v != (Value{}) || !isAt(err, errno, pos) {
		t.Fatalf("Eval(%s, %v): %+v, %v; want %d at %d", short(e), l, v, err, errno, pos)
	}
}

// reads: a text is worth this, by the tests' bindings.
func reads(t *testing.T, s string, right Value) {
	t.Helper()
	worth(t, read(t, s), bindings(), right)
}

// fails: a text has this error at this place, by the tests' bindings.
func fails(t *testing.T, s string, errno api.Errno, pos int) {
	t.Helper()
	wrongAt(t, read(t, s), bindings(), errno, pos)
}

// P8.1
func TestTheChaptersExample(t *testing.T) {
	l := []Bind{{"x", Number(3)}}
	worth(t, read(t, "x > 2 | y"), l, Truth(true))
	wrongAt(t, read(t, "x > 3 | y"), l, api.ErrName, 8)
}

// P8.2
func TestValues(t *testing.T) {
	for _, n := range []int64{0, 1, -1, 2, -42, greatest, least} {
		if v := Number(n); v.Truth || v.Is || v.N != n {
			t.Errorf("Number(%d): %+v", n, v)
		}
	}
	for _, is := range []bool{true, false} {
		if v := Truth(is); !v.Truth || v.Is != is || v.N != 0 {
			t.Errorf("Truth(%v): %+v", is, v)
		}
	}
	if Number(0) == Truth(false) || Number(1) == Truth(true) {
		t.Error("a number is a truth")
	}
}

// P8.1
func TestAtoms(t *testing.T) {
	for _, l := range [][]Bind{nil, {}, bindings()} {
		for _, n := range []int64{0, 1, 42, greatest, -1, least} {
			worth(t, num(n), l, Number(n))
		}
		worth(t, word(true), l, Truth(true))
		worth(t, word(false), l, Truth(false))
	}
	// What an Op has no use for isn't looked at.
	worth(t, expr.Expr{Op: "num", Name: "x", N: 7, Kids: []expr.Expr{}}, bindings(), Number(7))
	worth(t, expr.Expr{Op: "name", Name: "x", N: 7, Kids: []expr.Expr{}}, bindings(), Number(3))
	worth(t, expr.Expr{Op: "true", Name: "false", N: 7}, bindings(), Truth(true))
	worth(t, expr.Expr{Op: "false", Name: "true", N: 7}, bindings(), Truth(false))
	worth(t, expr.Expr{Op: "neg", Name: "x", N: 7, Kids: []expr.Expr{num(2)}}, bindings(), Number(-2))
}

// P8.1
func TestNames(t *testing.T) {
	reads(t, "x", Number(3))
	reads(t, "y", Number(-5))
	reads(t, "yes", Truth(true))
	reads(t, "no", Truth(false))
	reads(t, "low", Number(least))
	for _, s := range []string{"z", "X", "xx", "xy", "_", "num", "name", "neg"} {
		fails(t, s, api.ErrName, 0)
	}
	fails(t, "x + (1 - z)", api.ErrName, 9)
	fails(t, " // x\n z", api.ErrName, 7)
}

// P8.1: a name is what its bytes are.
func TestNamesThatNoTextHas(t *testing.T) {
	odd := []string{"", " ", "x y", "true", "false", "num", "\x00", "\xff", "\xfe", "\u00e9", "e\u0301"}
	for i, s := range odd {
		var l []Bind
		for n, other := range odd {
			l = append(l, Bind{other, Number(int64(n))})
		}
		worth(t, name(s), l, Number(int64(i)))
		wrongAt(t, at(4, name(s)), slices.Delete(l, i, i+1), api.ErrName, 4)
	}
	// Words of truths aren't asked by their names.
	worth(t, word(true), []Bind{{"true", Number(1)}}, Truth(true))
	worth(t, word(false), []Bind{{"false", Truth(true)}}, Truth(false))
}

// P8.1
func TestNoBindings(t *testing.T) {
	for _, l := range [][]Bind{nil, {}} {
		worth(t, read(t, "(1 + 2) * 3 = 9 & !false"), l, Truth(true))
		wrongAt(t, read(t, "x"), l, api.ErrName, 0)
		wrongAt(t, read(t, "1 + x"), l, api.ErrName, 4)
		wrongAt(t, name(""), l, api.ErrName, 0)
		worth(t, read(t, "true | x"), l, Truth(true))
	}
}

// P8.1: of two bindings with one name the first counts.
func TestNamesThatAreBoundTwice(t *testing.T) {
	l := []Bind{{"x", Number(1)}, {"b", Truth(true)}, {"x", Number(2)}, {"b", Number(7)}, {"x", Truth(false)}}
	worth(t, read(t, "x"), l, Number(1))
	worth(t, read(t, "b"), l, Truth(true))
	worth(t, read(t, "x + x"), l, Number(2))
	wrongAt(t, read(t, "2 * b"), l, api.ErrType, 4)
	slices.Reverse(l)
	worth(t, read(t, "x"), l, Truth(false))
	worth(t, read(t, "b"), l, Number(7))
	wrongAt(t, read(t, "x + x"), l, api.ErrType, 0)
	wrongAt(t, read(t, "x & b"), slices.Concat([]Bind{{"x", Truth(true)}}, l), api.ErrType, 4)
}

// P8.1: of a value that is put together anyhow only the half that counts is
// looked at, and told.
func TestBindingsOfOddValues(t *testing.T) {
	l := []Bind{
		{"yes", Value{Truth: true, Is: true, N: 5}}, {"no", Value{Truth: true, N: least}},
		{"n", Value{Is: true, N: 7}},
	}
	worth(t, name("yes"), l, Truth(true))
	worth(t, name("no"), l, Truth(false))
	worth(t, name("n"), l, Number(7))
	worth(t, read(t, "yes = true & true = yes & no = false & false = no"), l, Truth(true))
	worth(t, read(t, "yes != true | no != false | n != 7 | yes = no"), l, Truth(false))
	worth(t, read(t, "n = 7 & 7 = n & n <= 7 & n + 1 = 8"), l, Truth(true))
	wrongAt(t, read(t, "n & yes"), l, api.ErrType, 0)
	wrongAt(t, read(t, "n + yes"), l, api.ErrType, 4)
	wrongAt(t, read(t, "n = yes"), l, api.ErrType, 4)
}

// edges: numbers of both signs, at the ends of the kind and beside them, and at
// the powers of two and the roots of the ends.
func edges() []int64 {
	l := []int64{
		least, least + 1, least + 2, greatest - 2, greatest - 1, greatest, 10, -10, 12, -12,
		root - 1, root, root + 1, -root + 1, -root, -root - 1, greatest / 3, greatest/3 + 1, least / 3, least/3 - 1,
	}
	for power := range 63 {
		p := int64(1) << power
		l = append(l, p-1, p, -p-1, -p)
	}
	slices.Sort(l)
	return slices.Compact(l)
}

// reckons: an expression at 9 is worth a number, or too great if it isn't one of
// 64 bits.
func reckons(t *testing.T, e expr.Expr, right *big.Int) {
	t.Helper()
	if right.IsInt64() {
		worth(t, at(9, e), nil, Number(right.Int64()))
		return
	}
	wrongAt(t, at(9, e), nil, api.ErrOver, 9)
}

// P8.1, beside numbers without an end.
func TestSumsOfEdges(t *testing.T) {
	for _, a := range edges() {
		x := big.NewInt(a)
		left := at(1, num(a))
		reckons(t, of("neg", left), new(big.Int).Neg(x))
		for _, b := range edges() {
			y := big.NewInt(b)
			right := at(2, num(b))
			reckons(t, of("+", left, right), new(big.Int).Add(x, y))
			reckons(t, of("-", left, right), new(big.Int).Sub(x, y))
			reckons(t, of("*", left, right), new(big.Int).Mul(x, y))
		}
	}
}

// P8.1
func TestSumsThatAreJustTooGreat(t *testing.T) {
	reads(t, "top - 1 + 1", Number(greatest))
	reads(t, "low + 1 - 1", Number(least))
	reads(t, "9223372036854775806 + 1", Number(greatest))
	fails(t, "9223372036854775807 + 1", api.ErrOver, 0)
	fails(t, "1 + top", api.ErrOver, 0)
	reads(t, "-top - 1", Number(least))
	fails(t, "-top - 2", api.ErrOver, 0)
	fails(t, "low - 1", api.ErrOver, 0)
	reads(t, "-1 - low", Number(greatest))
	fails(t, "zero - low", api.ErrOver, 0)
	reads(t, "-top", Number(-greatest))
	fails(t, "-low", api.ErrOver, 0)
	reads(t, "4611686018427387903 * 2", Number(greatest-1))
	fails(t, "4611686018427387904 * 2", api.ErrOver, 0)
	reads(t, "4611686018427387904 * -2", Number(least))
	fails(t, "low * -1", api.ErrOver, 0)
	fails(t, "-1 * low", api.ErrOver, 0)
	reads(t, "3037000499 * 3037000499", Number(root*root))
	fails(t, "3037000500 * 3037000500", api.ErrOver, 0)
	// Each step counts, even if the whole would fit, and it tells its own place.
	fails(t, "top + 1 - 1", api.ErrOver, 0)
	reads(t, "top + (1 - 1)", Number(greatest))
	fails(t, "1 + (top + 1)", api.ErrOver, 4)
	fails(t, "1 + 2 * top", api.ErrOver, 4)
	fails(t, "x = 3 & -low < 3", api.ErrOver, 8)
	fails(t, "zero * (3 + -low)", api.ErrOver, 12)
	fails(t, "true & (1 < (2 + (top)))", api.ErrOver, 12)
}

// P8.1
func TestSums(t *testing.T) {
	reads(t, "x * x - 10", Number(-1))
	reads(t, "10 - x - y", Number(12))
	reads(t, "10 - (x - y)", Number(2))
	reads(t, "-x + 1", Number(-2))
	reads(t, "-y", Number(5))
	reads(t, "-zero", Number(0))
	reads(t, "-(-(-x))", Number(-3))
	reads(t, "2 + 3 * y", Number(-13))
	reads(t, "(2 + 3) * y", Number(-25))
}

// P8.1
func TestComparisonsOfEdges(t *testing.T) {
	for _, a := range edges() {
		for _, b := range edges() {
			order := cmp.Compare(a, b)
			for op, right := range map[string]bool{
				"<": order < 0, "<=": order <= 0, ">": order > 0, ">=": order >= 0, "=": order == 0, "!=": order != 0,
			} {
				worth(t, of(op, num(a), num(b)), nil, Truth(right))
			}
		}
	}
}

// P8.1
func TestTruths(t *testing.T) {
	for _, a := range []bool{true, false} {
		worth(t, of("!", word(a)), nil, Truth(!a))
		for _, b := range []bool{true, false} {
			for op, right := range map[string]bool{"&": a && b, "|": a || b, "=>": !a || b, "=": a == b, "!=": a != b} {
				worth(t, of(op, word(a), word(b)), nil, Truth(right))
			}
		}
	}
	reads(t, "!(!yes)", Truth(true))
	reads(t, "!(yes & no | x > 3) => no", Truth(false))
	reads(t, "yes => no => yes", Truth(true))
	reads(t, "(x = 3) = yes", Truth(true))
	reads(t, "no = (x != 3)", Truth(true))
}

// P8.1
func TestChoices(t *testing.T) {
	reads(t, "yes ? x : y", Number(3))
	reads(t, "no ? x : y", Number(-5))
	reads(t, "x = 3 ? no : yes", Truth(false))
	reads(t, "x < 3 ? no : yes", Truth(true))
	reads(t, "no ? 1 : no ? 2 : 3", Number(3))
	reads(t, "no ? 1 : yes ? 2 : 3", Number(2))
	reads(t, "(yes ? no : yes) ? 1 : 2", Number(2))
	// Its two ends may be of two kinds.
	reads(t, "yes ? x : no", Number(3))
	reads(t, "no ? x : no", Truth(false))
	reads(t, "(yes ? x : no) + 1", Number(4))
	fails(t, "1 + (no ? x : no)", api.ErrType, 4)
}

// P8.1: what must be a number and is a truth, and the other way, on each side.
func TestTypesThatAreWrong(t *testing.T) {
	one, truth := at(1, num(1)), at(2, word(true))
	for _, other := range []expr.Expr{at(3, word(false)), at(3, of("!", word(true))), at(3, of("<", num(1), num(1))), at(3, of("?", word(true), word(true), num(1)))} {
		wrongAt(t, at(9, of("neg", other)), nil, api.ErrType, 3)
		for _, op := range slices.Concat(sums, comparisons) {
			wrongAt(t, at(9, of(op, other, one)), nil, api.ErrType, 3)
			wrongAt(t, at(9, of(op, one, other)), nil, api.ErrType, 3)
			wrongAt(t, at(9, of(op, other, truth)), nil, api.ErrType, 3)
		}
		for _, op := range equalities {
			wrongAt(t, at(9, of(op, one, other)), nil, api.ErrType, 3)
			wrongAt(t, at(9, of(op, other, one)), nil, api.ErrType, 1)
		}
	}
	for _, other := range []expr.Expr{at(3, num(0)), at(3, num(1)), at(3, of("neg", num(1))), at(3, of("+", num(1), num(1))), at(3, of("?", word(false), word(true), num(1)))} {
		wrongAt(t, at(9, of("!", other)), nil, api.ErrType, 3)
		wrongAt(t, at(9, of("?", other, truth, truth)), nil, api.ErrType, 3)
		wrongAt(t, at(9, of("?", other, one, one)), nil, api.ErrType, 3)
		for _, op := range junctions {
			wrongAt(t, at(9, of(op, other, truth)), nil, api.ErrType, 3)
			wrongAt(t, at(9, of(op, other, one)), nil, api.ErrType, 3)
			wrongAt(t, at(9, of(op, word(op != "|"), other)), nil, api.ErrType, 3)
		}
		for _, op := range equalities {
			wrongAt(t, at(9, of(op, truth, other)), nil, api.ErrType, 3)
			wrongAt(t, at(9, of(op, other, truth)), nil, api.ErrType, 2)
		}
	}
}

// P8.1: types are told at the place of what is wrong, as texts have it.
func TestTypesInTexts(t *testing.T) {
	fails(t, "x + yes", api.ErrType, 4)
	fails(t, "yes + x", api.ErrType, 0)
	fails(t, "x & yes", api.ErrType, 0)
	fails(t, "yes & x", api.ErrType, 6)
	fails(t, "x = yes", api.ErrType, 4)
	fails(t, "yes = x", api.ErrType, 6)
	fails(t, "!(x)", api.ErrType, 1)
	fails(t, "-yes", api.ErrType, 1)
	fails(t, "-(x = 3)", api.ErrType, 1)
	fails(t, "x ? 1 : 2", api.ErrType, 0)
	fails(t, "x * (x < 3) + 1", api.ErrType, 4)
	fails(t, "1 + x = yes", api.ErrType, 8)
	fails(t, "yes = (1 + x)", api.ErrType, 6)
	fails(t, "(yes => x)", api.ErrType, 8)
	fails(t, "no | (x)", api.ErrType, 5)
	fails(t, "x => yes", api.ErrType, 0)
}

// mistake: an expression that has an error at a place.
type mistake struct {
	e     expr.Expr
	errno api.Errno
	pos   int
}

// mistakes: of each error, at that place.
func mistakes(pos int) []mistake {
	return []mistake{
		{at(pos, name("nobody")), api.ErrName, pos},
		{of("neg", at(pos, name("nobody"))), api.ErrName, pos},
		{of("!", of("&", word(true), at(pos, num(1)))), api.ErrType, pos},
		{of("=", num(0), at(pos, word(false))), api.ErrType, pos},
		{of("=", num(0), at(pos, of("+", num(greatest), num(1)))), api.ErrOver, pos},
		{at(pos, of("neg", num(least))), api.ErrOver, pos},
		{of("?", word(false), of("nothing"), at(pos, of("nothing"))), api.ErrArg, pos},
		{at(pos, of("&", word(false))), api.ErrArg, pos},
	}
}

// P8.1: what isn't asked isn't looked at.
func TestWhatIsNotAsked(t *testing.T) {
	yes, no, five := word(true), word(false), num(5)
	others := []expr.Expr{num(1), word(true), word(false), {}, {Op: "true", Kids: []expr.Expr{{}}}}
	for _, m := range mistakes(70) {
		others = append(others, m.e)
	}
	for _, other := range others {
		worth(t, of("&", no, other), nil, Truth(false))
		worth(t, of("|", yes, other), nil, Truth(true))
		worth(t, of("=>", no, other), nil, Truth(true))
		worth(t, of("?", yes, five, other), nil, Number(5))
		worth(t, of("?", no, other, five), nil, Number(5))
		worth(t, of("?", yes, no, other), nil, Truth(false))
		worth(t, of("?", of("|", yes, other), of("!", of("&", no, other)), other), nil, Truth(true))
	}
	reads(t, "yes | z", Truth(true))
	reads(t, "no & z", Truth(false))
	reads(t, "no => z", Truth(true))
	reads(t, "yes ? x : z", Number(3))
	reads(t, "no ? z : x", Number(3))
	reads(t, "no & z | x = 3 | top + 1 > 0", Truth(true))
	reads(t, "x = 0 | 4 > x & (x > 3 => -low = 1)", Truth(true))
}

// P8.1: what is asked is looked at.
func TestWhatIsAsked(t *testing.T) {
	yes, no, five := word(true), word(false), num(5)
	for _, m := range mistakes(70) {
		for _, e := range []expr.Expr{
			of("&", yes, m.e), of("|", no, m.e), of("=>", yes, m.e),
			of("&", m.e, no), of("|", m.e, yes), of("=>", m.e, yes),
			of("?", yes, m.e, five), of("?", no, five, m.e), of("?", m.e, five, five),
			of("neg", m.e), of("!", m.e), of("!", of("neg", m.e)),
		} {
			wrongAt(t, at(9, e), nil, m.errno, m.pos)
		}
		for _, op := range slices.Concat(sums, comparisons, equalities) {
			wrongAt(t, at(9, of(op, five, m.e)), nil, m.errno, m.pos)
			wrongAt(t, at(9, of(op, m.e, five)), nil, m.errno, m.pos)
		}
		for _, op := range equalities {
			wrongAt(t, at(9, of(op, yes, m.e)), nil, m.errno, m.pos)
			wrongAt(t, at(9, of(op, m.e, yes)), nil, m.errno, m.pos)
		}
	}
	fails(t, "no | z", api.ErrName, 5)
	fails(t, "yes & z", api.ErrName, 6)
	fails(t, "yes => z", api.ErrName, 7)
	fails(t, "yes ? z : x", api.ErrName, 6)
	fails(t, "no ? x : z", api.ErrName, 9)
}

// P8.1: of two errors the first one counts, the left one ahead of the right one.
func TestTwoErrors(t *testing.T) {
	for _, m := range mistakes(70) {
		for _, n := range mistakes(60) {
			for _, op := range opsOf(2) {
				wrongAt(t, at(9, of(op, m.e, n.e)), nil, m.errno, m.pos)
			}
			wrongAt(t, at(9, of("?", m.e, n.e, n.e)), nil, m.errno, m.pos)
			wrongAt(t, at(9, of("?", word(true), m.e, n.e)), nil, m.errno, m.pos)
			wrongAt(t, at(9, of("?", word(false), n.e, m.e)), nil, m.errno, m.pos)
		}
		// A left one of the wrong kind is known ahead of the right one.
		for _, op := range slices.Concat(sums, comparisons) {
			wrongAt(t, of(op, at(80, word(true)), m.e), nil, api.ErrType, 80)
		}
		for _, op := range junctions {
			wrongAt(t, of(op, at(80, num(1)), m.e), nil, api.ErrType, 80)
		}
		wrongAt(t, of("?", at(80, num(1)), m.e, m.e), nil, api.ErrType, 80)
		// And what is wrong inside is known ahead of the kind.
		wrongAt(t, of("+", of("<", num(1), m.e), num(1)), nil, m.errno, m.pos)
		wrongAt(t, of("!", of("+", num(1), m.e)), nil, m.errno, m.pos)
	}
	fails(t, "u + v", api.ErrName, 0)
	fails(t, "yes + z", api.ErrType, 0)
	fails(t, "z + yes", api.ErrName, 0)
	fails(t, "x + yes + z", api.ErrType, 4)
	fails(t, "x + (z + yes)", api.ErrName, 5)
	fails(t, "top + 1 + z", api.ErrOver, 0)
	fails(t, "top + (1 + z)", api.ErrName, 11)
	fails(t, "yes = x & z", api.ErrType, 6)
}

// P8.1
func TestOpsThatAreNone(t *testing.T) {
	for _, op := range []string{
		"", " ", "==", "!==", "<>", "=<", "<<", "++", "--", "**", "/", "%", "^", "&&", "||", "<=>", "->", "~", "?:", ":", "(", ")", "(c)",
		"Neg", "NEG", "neg ", " neg", "not", "and", "Num", "number", "Name", "True", "FALSE", "true\x00", "label", "int", "bool", "x", "+ ", "\xff",
	} {
		for n := range 5 {
			wrongAt(t, at(9, of(op, slices.Repeat([]expr.Expr{num(1)}, n)...)), bindings(), api.ErrArg, 9)
			wrongAt(t, at(9, of(op, slices.Repeat([]expr.Expr{word(true)}, n)...)), bindings(), api.ErrArg, 9)
		}
	}
	wrongAt(t, expr.Expr{}, nil, api.ErrArg, 0)
	wrongAt(t, expr.Expr{Name: "x", N: 3}, bindings(), api.ErrArg, 0)
}

// P8.1: ErrArg comes ahead of all else of that expression.
func TestNumbersOfKidsThatAreWrong(t *testing.T) {
	for right := range 4 {
		for _, op := range opsOf(right) {
			for n := range 6 {
				if n == right {
					continue
				}
				for _, kid := range []expr.Expr{num(1), word(true), word(false), name("nobody"), of("nothing")} {
					e := at(9, of(op, slices.Repeat([]expr.Expr{at(70, kid)}, n)...))
					wrongAt(t, e, nil, api.ErrArg, 9)
					e.Name = "x"
					wrongAt(t, e, bindings(), api.ErrArg, 9)
					wrongAt(t, at(20, of("!", e)), nil, api.ErrArg, 9)
					wrongAt(t, at(20, of("=", e, e)), nil, api.ErrArg, 9)
				}
			}
		}
	}
	// Of that one alone: a kid's is told when the kid is asked.
	wrongAt(t, at(9, of("+", at(1, name("nobody")), at(2, of("-")))), nil, api.ErrName, 1)
	wrongAt(t, at(9, of("+", at(1, word(true)), at(2, of("-")))), nil, api.ErrType, 1)
}

// P8.1: a place may be any number.
func TestPlaces(t *testing.T) {
	for _, pos := range []int{0, 1, -1, 65536, math.MaxInt, math.MinInt} {
		wrongAt(t, at(pos, name("z")), nil, api.ErrName, pos)
		wrongAt(t, of("!", at(pos, num(1))), nil, api.ErrType, pos)
		wrongAt(t, at(pos, of("neg", num(least))), nil, api.ErrOver, pos)
		wrongAt(t, at(pos, of("neg")), nil, api.ErrArg, pos)
	}
	for _, s := range []string{"z", "!x", "-low", "1 & yes", "x = no"} {
		_, err := Eval(read(t, s), bindings())
		var at *api.At
		if !errors.As(err, &at) || err != error(at) {
			t.Errorf("Eval(%q): %v isn't an error at a place itself", s, err)
		}
	}
}

// texts: with a value or any error.
func texts() []string {
	return []string{
		"x", "y", "yes", "z", "other", "x + y", "x + z", "z + x", "x + yes", "yes & x", "no & z", "no | z", "yes | z", "yes => z",
		"x = yes", "x != y", "x < y ? x : z", "x > y ? x : z", "top + 1", "low - 1", "-low", "!x", "-(yes)", "1 + 2", "true", "x * x - y = 14 & !no",
	}
}

// P8.3
func TestOtherNamesChangeNothing(t *testing.T) {
	others := []Bind{
		{"a", Number(1)}, {"", Truth(true)}, {"X", Number(9)}, {"xx", Number(9)}, {"x ", Truth(false)}, {"true", Truth(false)},
		{"false", Number(0)}, {"num", Number(2)}, {"a", Truth(true)}, {"ye", Number(7)}, {"yess", Number(7)}, {"+", Number(3)},
	}
	for _, s := range texts() {
		e := read(t, s)
		right, wrong := Eval(e, bindings())
		for place := range len(bindings()) + 1 {
			for n := range len(others) + 1 {
				v, err := Eval(e, slices.Insert(bindings(), place, others[:n]...))
				if v != right || !reflect.DeepEqual(err, wrong) {
					t.Fatalf("Eval(%q) with %v at %d: %+v, %v; without %+v, %v", s, others[:n], place, v, err, right, wrong)
				}
			}
		}
	}
}

// R4 and R6: what is handed in stays as it is, and nothing is kept of it.
func TestNothingIsChangedOrKept(t *testing.T) {
	for _, s := range texts() {
		e, l := read(t, s), bindings()
		v, err := Eval(e, l)
		if !reflect.DeepEqual(e, read(t, s)) || !slices.Equal(l, bindings()) {
			t.Errorf("Eval(%q) changed it to %+v, or its bindings to %v", s, e, l)
		}
		if again, other := Eval(e, l); again != v || !reflect.DeepEqual(other, err) {
			t.Errorf("Eval(%q): %+v, %v; again %+v, %v", s, v, err, again, other)
		}
		var first, second *api.At
		_, other := Eval(e, l)
		if errors.As(err, &first) && errors.As(other, &second) && first == second {
			t.Errorf("Eval(%q): two calls told one error", s)
		}
		clear(l)
		wrongAt(t, at(3, name("x")), l, api.ErrName, 3)
	}
}

// R1: of some thousands of nodes, on each side.
func TestGreatTrees(t *testing.T) {
	const n = 5000
	left, right, minus, nots, choices := num(0), num(0), num(7), word(true), num(n)
	for i := range n {
		left = at(i, of("+", left, num(1)))
		right = at(i, of("+", num(1), right))
		minus = of("neg", minus)
		nots = of("!", nots)
		choices = of("?", of("=", name("x"), num(int64(i))), num(int64(-i)), choices)
	}
	worth(t, left, nil, Number(n))
	worth(t, right, nil, Number(n))
	worth(t, minus, nil, Number(7))
	worth(t, nots, nil, Truth(true))
	worth(t, choices, []Bind{{"x", Number(4000)}}, Number(-4000))
	worth(t, choices, []Bind{{"x", Number(-1)}}, Number(n))
}
