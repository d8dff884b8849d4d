package check

import (
	"errors"
	"math"
	"slices"
	"strconv"
	"strings"
	"testing"

	"sortilege/api"
	"sortilege/expr"
)

// marked: a text without the ^ that stands in it, and its place.
func marked(t *testing.T, s string) (string, int) {
	t.Helper()
	pos := strings.Index(s, "^")
	if pos < 0 || strings.Count(s, "^") != 1 {
		t.Fatalf("%q has no mark, or several", s)
	}
	return s[:pos] + s[pos+1:], pos
}

// short: a text as it may be shown.
func short(s string) string {
	if len(s) > 300 {
		s = s[:300] + " and on"
	}
	return strconv.Quote(s)
}

// isAt: an error at a place, as errors.Is and errors.As tell it.
func isAt(err error, errno api.Errno, pos int) bool {
	var at *api.At
	return errors.Is(err, errno) && errors.As(err, &at) && at.Pos == pos
}

// num, name, word, of and at: expressions, of which only at's has a place.
func num(n int64) expr.Expr                     { return expr.Expr{Op: "num", N: n} }
func name(s string) expr.Expr                   { return expr.Expr{Op: "name", Name: s} }
func word(is bool) expr.Expr                    { return of(strconv.FormatBool(is)) }
func of(op string, kids ...expr.Expr) expr.Expr { return expr.Expr{Op: op, Kids: kids} }
func at(pos int, e expr.Expr) expr.Expr         { e.Pos = pos; return e }

// slots: the tests' variables, two numbers and two truths.
func slots() []Slot {
	return []Slot{
		{Name: "x", Low: -1, High: 3}, {Name: "b", Bool: true, High: 1},
		{Name: "y", Module: 1, Low: 7, High: 7, Init: 7}, {Name: "c", Module: 1, Bool: true, High: 1, Init: 1},
	}
}

// readExpr: an expression with its places.
func readExpr(t *testing.T, s string) expr.Expr {
	t.Helper()
	e, err := expr.Parse(s, 64)
	if err != nil {
		t.Fatalf("expr.Parse(%q): %v", s, err)
	}
	return e
}

// isKind: an expression is a truth, or a number.
func isKind(t *testing.T, e expr.Expr, l []Slot, truth bool) {
	t.Helper()
	if is, err := Kind(e, l); is != truth || err != nil {
		t.Errorf("Kind(%s): %v, %v; want %v", short(expr.Print(e)), is, err, truth)
	}
}

// noKind: an expression has this error at this place, and nothing else is told.
func noKind(t *testing.T, e expr.Expr, l []Slot, errno api.Errno, pos int) {
	t.Helper()
	if is, err := Kind(e, l); is || !isAt(err, errno, pos) {
		t.Errorf("Kind(%s): %v, %v; want %d at %d", short(expr.Print(e)), is, err, errno, pos)
	}
}

// fails: a text has this error at the mark, with the tests' variables.
func fails(t *testing.T, s string, errno api.Errno) {
	t.Helper()
	text, pos := marked(t, s)
	noKind(t, readExpr(t, text), slots(), errno, pos)
}

// P10.1
func TestAtoms(t *testing.T) {
	for _, l := range [][]Slot{nil, {}, slots()} {
		for _, n := range []int64{0, 1, -1, 42, math.MaxInt64, math.MinInt64} {
			isKind(t, num(n), l, false)
		}
		isKind(t, word(true), l, true)
		isKind(t, word(false), l, true)
	}
	// What an Op has no use for isn't looked at.
	isKind(t, expr.Expr{Op: "num", Name: "b", Kids: []expr.Expr{}}, slots(), false)
	isKind(t, expr.Expr{Op: "true", Name: "x", N: 1}, slots(), true)
	isKind(t, expr.Expr{Op: "false", Name: "nobody", N: 1}, slots(), true)
	isKind(t, expr.Expr{Op: "name", Name: "b", N: 1, Kids: []expr.Expr{}}, slots(), true)
	isKind(t, expr.Expr{Op: "neg", Name: "b", N: 1, Kids: []expr.Expr{num(1)}}, slots(), false)
}

// P10.1
func TestNames(t *testing.T) {
	isKind(t, name("x"), slots(), false)
	isKind(t, name("y"), slots(), false)
	isKind(t, name("b"), slots(), true)
	isKind(t, name("c"), slots(), true)
	for _, s := range []string{"nobody", "", "X", "xx", "x ", "true", "num", "name"} {
		noKind(t, at(9, name(s)), slots(), api.ErrName, 9)
	}
	noKind(t, at(9, name("x")), nil, api.ErrName, 9)
	noKind(t, at(9, name("")), []Slot{}, api.ErrName, 9)
	// A name is what its bytes are.
	for _, s := range []string{"", "true", "num", "\x00", "\xff", "é", " x"} {
		isKind(t, name(s), []Slot{{Name: "x"}, {Name: s, Bool: true}}, true)
		isKind(t, name(s), []Slot{{Name: "x", Bool: true}, {Name: s}}, false)
	}
}

// P10.1: only the name and the kind of a variable are looked at.
func TestVariablesThatAreOdd(t *testing.T) {
	for _, n := range []int32{0, 1, -1, math.MinInt32, math.MaxInt32} {
		isKind(t, name("v"), []Slot{{Name: "v", Module: int(n), Low: n, High: -n, Init: n}}, false)
		isKind(t, name("v"), []Slot{{Name: "v", Module: int(n), Bool: true, Low: n, High: -n, Init: n}}, true)
	}
}

// P10.1: of two variables with one name the first counts.
func TestVariablesOfOneName(t *testing.T) {
	number, truth := Slot{Name: "v"}, Slot{Name: "v", Bool: true}
	other := Slot{Name: "w", Bool: true}
	isKind(t, name("v"), []Slot{number, truth}, false)
	isKind(t, name("v"), []Slot{truth, number}, true)
	isKind(t, name("v"), []Slot{other, number, truth, truth}, false)
	isKind(t, name("v"), []Slot{other, truth, other, number, number}, true)
	isKind(t, name("v"), append(slices.Repeat([]Slot{other}, 5000), truth, number), true)
}

// operator is an Op with the kinds of kids that it may have, n for a number and t
// for a truth, and what it is then.
type operator struct {
	op    string
	kids  string
	truth bool
}

// operators: all of those that have kids.
func operators() []operator {
	l := []operator{{"neg", "n", false}, {"!", "t", true}, {"?", "tnn", false}, {"?", "ttt", true}}
	for _, op := range []string{"+", "-", "*"} {
		l = append(l, operator{op, "nn", false})
	}
	for _, op := range []string{"<", "<=", ">", ">="} {
		l = append(l, operator{op, "nn", true})
	}
	for _, op := range []string{"=", "!="} {
		l = append(l, operator{op, "nn", true}, operator{op, "tt", true})
	}
	for _, op := range []string{"&", "|", "=>"} {
		l = append(l, operator{op, "tt", true})
	}
	return l
}

// kidsOf: how many each Op has.
func kidsOf() map[string]int {
	l := map[string]int{"num": 0, "name": 0, "true": 0, "false": 0}
	for _, o := range operators() {
		l[o.op] = len(o.kids)
	}
	return l
}

// words: all of n and t with so many letters.
func words(letters int) []string {
	l := []string{""}
	for range letters {
		var longer []string
		for _, s := range l {
			longer = append(longer, s+"n", s+"t")
		}
		l = longer
	}
	return l
}

// fitting: of the operators with that Op those whose kids begin so.
func fitting(op, kids string) []operator {
	return slices.DeleteFunc(operators(), func(o operator) bool { return o.op != op || !strings.HasPrefix(o.kids, kids) })
}

// someOf: an expression of a kind, of some form.
func someOf(kind byte, form int) expr.Expr {
	if kind == 'n' {
		return []expr.Expr{num(3), name("x"), of("neg", num(1)), of("+", name("y"), num(1)), of("?", name("b"), name("x"), num(0))}[form]
	}
	return []expr.Expr{word(false), name("b"), of("!", name("c")), of("=", name("x"), num(1)), of("?", name("b"), name("c"), word(true))}[form]
}

// P10.1: each Op with kids of all kinds: the first one that can't be is told.
func TestOperators(t *testing.T) {
	for op, kids := range kidsOf() {
		if kids == 0 {
			continue
		}
		for _, kinds := range words(kids) {
			for form := range 5 {
				e := at(100, of(op))
				for i := range kids {
					e.Kids = append(e.Kids, at(10+i, someOf(kinds[i], (form+i)%5)))
				}
				if l := fitting(op, kinds); len(l) > 0 {
					isKind(t, e, slots(), l[0].truth)
					continue
				}
				wrong := 0
				for len(fitting(op, kinds[:wrong+1])) > 0 {
					wrong++
				}
				noKind(t, e, slots(), api.ErrType, 10+wrong)
			}
		}
	}
}

// P10.1, in texts.
func TestKindsOfTexts(t *testing.T) {
	for s, truth := range map[string]bool{
		"x": false, "-x": false, "x + 1 - y * 2": false, "b ? x : y": false, "b ? (c ? x : 1) : -y": false, "x > y ? 1 : 2": false,
		"b": true, "!b": true, "b & c | !b => c": true, "x = y": true, "b = c": true, "x != 1": true, "b != (x < y)": true, "x <= y": true,
		"b ? c : x > 1": true, "b ? (c ? b : c) : true": true, "(b ? x : y) > 1": true, "(b = c) = (x = y)": true, "(b ? b : c) & true": true,
		"9223372036854775807 + 9223372036854775807": false, "x * 0 = 1": true,
	} {
		isKind(t, readExpr(t, s), slots(), truth)
	}
}

// P10.1, in texts: types are told at the place of what is wrong.
func TestTypesInTexts(t *testing.T) {
	for _, s := range []string{
		"-^b", "!^x", "^b + 1", "1 + ^b", "x - ^true", "2 * ^(b & c)", "^b < x", "x >= ^(!b)", "^x & b", "b & ^x", "b | ^1", "^1 | b", "b => ^x", "^(x + 1) => b",
		"x = ^b", "b = ^x", "x != ^(b | c)", "b != ^-x", "^x ? 1 : 2", "b ? x : ^c", "b ? c : ^x", "b ? c : ^x + 1", "b ? (c ? 1 : 2) : ^(c ? b : c)",
		"x + (1 + (2 + ^c))", "!(b & !(c | ^y))", "b ? (c ? 1 : ^b) : 2", "(x = ^b) & c", "1 + ^(b ? b : c)", "b & ^(b ? x : y)",
	} {
		fails(t, s, api.ErrType)
	}
}

// P10.1: all kids are looked at, those too that value wouldn't ask for.
func TestAllKidsAreLookedAt(t *testing.T) {
	for _, s := range []string{"false & ^1", "true | ^1", "false => ^1", "true ? 1 : ^b", "false ? 1 : ^b", "false & (false & !^1)", "true | (x = ^true)", "false ? -^b : 1"} {
		fails(t, s, api.ErrType)
	}
	for _, s := range []string{"false & ^z", "true | ^z", "false => ^z", "true ? 1 : ^z", "false ? ^z : 1", "0 * ^z", "-(1 + ^z)", "!(^z = z)", "x < ^z", "^z"} {
		fails(t, s, api.ErrName)
	}
}

// P10.1: the left one of two errors counts, and a kid's own error ahead of what
// its kind would be.
func TestTwoErrors(t *testing.T) {
	for _, s := range []string{
		"^b + b", "^b * c", "^b < true", "^x & x", "^1 | 2", "^1 => x", "^x ? 1 : b", "^x ? z : z", "^1 & z", "^b + z", "^x => z", "^b < z",
		"b ? (^x & z) + 1 : 2", "!(1 + ^true)", "-(b | ^1)", "!(b ? x : ^c)", "-(b ? b : ^x)", "1 + (b & ^x)", "b & (1 + ^b)",
		"x = (true & ^1)", "b = (1 + ^b)", "b ? x : !^x", "b ? c : -^c", "(1 + ^b) ? b : x", "(b & ^x) + b",
		"x + ^b + z", "x + ^b - c", "(^x & z) = 1", "1 < ^b",
	} {
		fails(t, s, api.ErrType)
	}
	for _, s := range []string{
		"^z + b", "^z & x", "b & ^z", "^z ? x : b", "b ? ^z : z", "b ? x : ^z", "!^z", "-^z", "^z = 1", "x = ^z", "^z = w", "!(x + ^z)", "-(b & ^z)", "b & (x + ^z)",
		"x + (b & ^z)", "x = (b & ^z)", "b ? x : !^z", "b ? ^z : b + b", "(x + ^z) ? 1 : b", "^z + (b + b)",
	} {
		fails(t, s, api.ErrName)
	}
}

// mistake is an expression with an error of its own.
type mistake struct {
	e     expr.Expr
	errno api.Errno
	pos   int
}

// mistakes: of each error some, of numbers, of truths and of neither.
func mistakes() []mistake {
	return []mistake{
		{at(40, name("nobody")), api.ErrName, 40},
		{at(40, of("-", num(1), at(50, name("nobody")))), api.ErrName, 50},
		{at(40, of("!", at(50, num(1)))), api.ErrType, 50},
		{at(40, of("neg", at(50, name("b")))), api.ErrType, 50},
		{at(40, of("?", word(true), num(1), at(50, word(false)))), api.ErrType, 50},
		{at(40, of("")), api.ErrArg, 40},
		{at(40, of("num", num(1))), api.ErrArg, 40},
		{at(40, of("+", num(1), num(2), num(3))), api.ErrArg, 40},
	}
}

// otherKind: n for t, and t for n.
func otherKind(kind byte) byte {
	if kind == 'n' {
		return 't'
	}
	return 'n'
}

// P10.1: each mistake as each kid of each Op comes ahead of what its kind would
// be, and of all that stands to the right; behind what is wrong to the left.
func TestMistakesOfKids(t *testing.T) {
	for _, o := range operators() {
		for i := range o.kids {
			for _, m := range mistakes() {
				e := at(100, of(o.op))
				for j := range o.kids {
					e.Kids = append(e.Kids, at(10+j, someOf(o.kids[j], 1)))
				}
				e.Kids[i] = m.e
				noKind(t, e, slots(), m.errno, m.pos)
				for j := i + 1; j < len(o.kids); j++ {
					e.Kids[j] = at(60, name("nobody"))
				}
				noKind(t, e, slots(), m.errno, m.pos)
				// The first kid of = and != may be of either kind.
				if i > 0 && o.op != "=" && o.op != "!=" {
					e.Kids[0] = at(10, someOf(otherKind(o.kids[0]), 2))
					noKind(t, e, slots(), api.ErrType, 10)
				}
			}
		}
	}
}

// P10.1
func TestOpsThatAreNone(t *testing.T) {
	for _, op := range []string{"", " ", "/", "%", "==", "<>", "=<", "&&", "||", "<=>", "->", "Num", "NAME", "not", "True", "bool", "-1", ":", "?:", "neg ", "\x00", "+\xff"} {
		for kids := range 5 {
			e := at(7, of(op, slices.Repeat([]expr.Expr{at(3, name("nobody"))}, kids)...))
			noKind(t, e, slots(), api.ErrArg, 7)
			noKind(t, of("!", e), slots(), api.ErrArg, 7)
		}
	}
}

// P10.1: ErrArg comes ahead of all else of that expression.
func TestNumbersOfKidsThatAreWrong(t *testing.T) {
	for op, right := range kidsOf() {
		for kids := range 6 {
			if kids == right {
				continue
			}
			for _, kid := range []expr.Expr{num(1), name("b"), at(3, name("nobody")), at(3, of("")), at(3, of("!", at(4, num(1))))} {
				e := expr.Expr{Op: op, Name: "x", Kids: slices.Repeat([]expr.Expr{kid}, kids), Pos: 7}
				noKind(t, e, slots(), api.ErrArg, 7)
				noKind(t, of("neg", e), slots(), api.ErrArg, 7)
				noKind(t, of("?", word(true), num(1), e), slots(), api.ErrArg, 7)
			}
		}
	}
	noKind(t, expr.Expr{}, nil, api.ErrArg, 0)
}

// P10.1: a place may be any number.
func TestPlaces(t *testing.T) {
	for _, pos := range []int{0, 1, -1, math.MaxInt, math.MinInt} {
		noKind(t, at(pos, name("nobody")), slots(), api.ErrName, pos)
		noKind(t, at(pos, of("nobody")), slots(), api.ErrArg, pos)
		noKind(t, of("!", at(pos, num(1))), slots(), api.ErrType, pos)
	}
}

// R1: trees of some thousands of nodes, on each side.
func TestGreatTrees(t *testing.T) {
	for _, n := range []int{1000, 4096, 20000} {
		left, right, truth := name("x"), name("x"), name("b")
		for range n {
			left = of("-", left, num(1))
			right = of("?", word(true), num(1), right)
			truth = of("!", truth)
		}
		isKind(t, left, slots(), false)
		isKind(t, right, slots(), false)
		isKind(t, truth, slots(), true)
		noKind(t, left, nil, api.ErrName, 0)
		noKind(t, of("!", at(5, right)), slots(), api.ErrType, 5)
		noKind(t, at(5, of("&", slices.Repeat([]expr.Expr{truth}, n)...)), slots(), api.ErrArg, 5)
	}
}

// R4 and R6: what is handed in stays as it is, and all is told again.
func TestKindChangesNothing(t *testing.T) {
	for _, s := range []string{"b ? x : y + 1", "b ? x : c", "x + z", "-x = y & !b"} {
		e, l := readExpr(t, s), slots()
		is, first := Kind(e, l)
		if !expr.Same(e, readExpr(t, s)) || !slices.Equal(l, slots()) {
			t.Errorf("Kind(%q): what was handed in is changed", s)
		}
		again, second := Kind(e, l)
		if is != again || (first == nil) != (second == nil) || first != nil && first == second {
			t.Errorf("Kind(%q): %v, %v; again %v, %v", s, is, first, again, second)
		}
	}
}
