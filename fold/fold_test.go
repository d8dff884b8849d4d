package fold

import (
	"errors"
	"math"
	"reflect"
	"slices"
	"strconv"
	"strings"
	"testing"

	"sortilege/api"
	"sortilege/expr"
	"sortilege/model"
	"sortilege/value"
)

// read: a model with its places.
func read(t *testing.T, s string) model.Model {
	t.Helper()
	m, err := model.Parse(s, 64)
	if err != nil {
		t.Fatalf("model.Parse(%q): %v", s, err)
	}
	return m
}

// marked: a text without the ^ that stands in it, and its place.
func marked(t *testing.T, s string) (string, int) {
	t.Helper()
	pos := strings.Index(s, "^")
	if pos < 0 || strings.Count(s, "^") != 1 {
		t.Fatalf("%q has no mark, or several", s)
	}
	return s[:pos] + s[pos+1:], pos
}

// short: a text as it may be shown.
func short(s string) string {
	if len(s) > 300 {
		s = s[:300] + " and on"
	}
	return strconv.Quote(s)
}

// isAt: an error at a place, as errors.Is and errors.As tell it.
func isAt(err error, errno api.Errno, pos int) bool {
	var at *api.At
	return errors.Is(err, errno) && errors.As(err, &at) && at.Pos == pos
}

// constsFail: a model's constants have this error at this place, and nothing
// else is told; Fold tells the same.
func constsFail(t *testing.T, m model.Model, errno api.Errno, pos int) {
	t.Helper()
	if l, err := Consts(m); len(l) != 0 || !isAt(err, errno, pos) {
		t.Errorf("Consts(%s): %v, %v; want %d at %d", short(model.Print(m)), l, err, errno, pos)
	}
	foldFails(t, m, errno, pos)
}

// foldFails: a model can't be folded for this error at this place, and nothing
// else is told.
func foldFails(t *testing.T, m model.Model, errno api.Errno, pos int) {
	t.Helper()
	if x, err := Fold(m); !reflect.DeepEqual(x, model.Model{}) || !isAt(err, errno, pos) {
		t.Errorf("Fold(%s): %s, %v; want %d at %d", short(model.Print(m)), short(model.Print(x)), err, errno, pos)
	}
}

// refuses: a text's constants have this error at the mark.
func refuses(t *testing.T, s string, errno api.Errno) {
	t.Helper()
	text, pos := marked(t, s)
	constsFail(t, read(t, text), errno, pos)
}

// unfoldable: a text has this error at the mark, but its constants have none.
func unfoldable(t *testing.T, s string, errno api.Errno) {
	t.Helper()
	text, pos := marked(t, s)
	m := read(t, text)
	if _, err := Consts(m); err != nil {
		t.Errorf("Consts(%s): %v", short(text), err)
	}
	foldFails(t, m, errno, pos)
}

// worth: a text's constants are worth this.
func worth(t *testing.T, s string, right ...value.Bind) {
	t.Helper()
	l, err := Consts(read(t, s))
	if err != nil || !slices.Equal(l, right) {
		t.Errorf("Consts(%s): %v, %v; want %v", short(s), l, err, right)
	}
}

// folded: a text that can be folded, and is.
func folded(t *testing.T, s string) model.Model {
	t.Helper()
	x, err := Fold(read(t, s))
	if err != nil {
		t.Fatalf("Fold(%s): %v", short(s), err)
	}
	return x
}

// folds: a text becomes this one.
func folds(t *testing.T, s, right string) {
	t.Helper()
	if x := folded(t, s); model.Print(x) != model.Print(read(t, right)) {
		t.Errorf("Fold(%s): %s; want %s", short(s), short(model.Print(x)), short(right))
	}
}

// labelOf: the expression of a text's last label, folded.
func labelOf(t *testing.T, s string) expr.Expr {
	t.Helper()
	l := folded(t, s).Labels
	return l[len(l)-1].X
}

// num and truth: a name with its value.
func num(name string, n int64) value.Bind   { return value.Bind{Name: name, V: value.Number(n)} }
func truth(name string, is bool) value.Bind { return value.Bind{Name: name, V: value.Truth(is)} }

// P9.1
func TestTheChaptersExample(t *testing.T) {
	worth(t, "mdp const N = M + 1; const M = 2;", num("N", 3), num("M", 2))
}

// P9.1
func TestNoConstants(t *testing.T) {
	worth(t, "mdp")
	worth(t, `mdp formula f = g; label "a" = z; module m x : [y..f] init z; endmodule`)
	for _, m := range []model.Model{{}, {Consts: []model.Def{}, Labels: []model.Def{}, Modules: []model.Module{}}} {
		if l, err := Consts(m); len(l) != 0 || err != nil {
			t.Errorf("Consts of none: %v, %v", l, err)
		}
		if x, err := Fold(m); model.Print(x) != "mdp\n" || err != nil {
			t.Errorf("Fold of nothing: %v, %v", x, err)
		}
	}
}

// P9.1
func TestConstantsThatAskForOthers(t *testing.T) {
	worth(t, "mdp const A = 1;", num("A", 1))
	worth(t, "mdp const A = 1; const B = A + A; const C = B * B - A;", num("A", 1), num("B", 2), num("C", 3))
	worth(t, "mdp const C = B * B - A; const B = A + A; const A = 1;", num("C", 3), num("B", 2), num("A", 1))
	worth(t, "mdp const B = A; const A = C; const C = 7;", num("B", 7), num("A", 7), num("C", 7))
	worth(t, "mdp const b = !c; const c = n < 3 & d; const d = true; const n = 2;",
		truth("b", false), truth("c", true), truth("d", true), num("n", 2))
	worth(t, "mdp const a = b ? c : d; const b = c = d; const c = 5; const d = 6;", num("a", 6), truth("b", false), num("c", 5), num("d", 6))
	worth(t, "mdp const a = b + (c + (b + c)); const b = c + 1; const c = 10;", num("a", 42), num("b", 11), num("c", 10))
	// What else there is, even if it is wrong, is nothing to them.
	worth(t, `mdp module m x : [f..g] init y; [] z -> (x' = z); endmodule label "A" = B; formula f = f; const A = 4;`, num("A", 4))
}

// P9.1
func TestConstantsAtTheEdges(t *testing.T) {
	worth(t, "mdp const A = -1; const B = A * 3; const C = -B;", num("A", -1), num("B", -3), num("C", 3))
	worth(t, "mdp const top = 9223372036854775807; const low = -top - 1; const t = -1 - low;",
		num("top", math.MaxInt64), num("low", math.MinInt64), num("t", math.MaxInt64))
	worth(t, "mdp const low = -top - 1; const top = 9223372036854775806 + 1;", num("low", math.MinInt64), num("top", math.MaxInt64))
	refuses(t, "mdp const top = 9223372036854775807; const more = ^top + 1;", api.ErrOver)
	refuses(t, "mdp const more = 0 * ^(top + 1); const top = 9223372036854775807;", api.ErrOver)
	refuses(t, "mdp const less = 1 + ^(low - 1); const top = 9223372036854775807; const low = -top - 1;", api.ErrOver)
	refuses(t, "mdp const top = 9223372036854775807; const low = -top - 1; const n = 1 < ^-low;", api.ErrOver)
	refuses(t, "mdp const top = 9223372036854775807; const n = 1 + ^2 * top;", api.ErrOver)
}

// P9.1: value's errors, at the places of the text.
func TestConstantsThatAreWorthNothing(t *testing.T) {
	refuses(t, "mdp const A = ^true + 1;", api.ErrType)
	refuses(t, "mdp const A = B; const B = 1 + ^C; const C = true;", api.ErrType)
	refuses(t, "mdp const A = 1; const B = !^A;", api.ErrType)
	refuses(t, "mdp const A = true; const B = A = ^1;", api.ErrType)
	refuses(t, "mdp const A = true; const B = 1 + (2 * ^(A ? A : 1));", api.ErrType)
	refuses(t, "mdp const A = 3; const B = (A < 4) & ^(A + 1);", api.ErrType)
}

// P9.1: each pair of kinds; what comes behind by the chapter's order is told,
// wherever it stands in the text.
func TestNamesThatWereThereBefore(t *testing.T) {
	for _, s := range []string{
		"mdp const n = 1; const ^n = 1;",
		"mdp const n = 1; formula ^n = 1;",
		"mdp formula ^n = 1; const n = 1;",
		"mdp const n = 1; module m ^n : bool; endmodule",
		"mdp module m ^n : bool; endmodule const n = 1;",
		"mdp formula n = 1; formula ^n = 1;",
		"mdp formula n = 1; module m ^n : [0..1]; endmodule",
		"mdp module m ^n : [0..1]; endmodule formula n = 1;",
		"mdp module m n : bool; ^n : bool; endmodule",
		"mdp module m n : bool; x : bool; ^n : [0..1]; endmodule",
		"mdp module m n : bool; endmodule module o x : bool; ^n : [0..1]; endmodule",
		"mdp module m n : bool; endmodule module o endmodule module p ^n : bool; endmodule",
		`mdp label "n" = true; label ^"n" = true;`,
		`mdp label "n" = true; label "x" = true; label ^"n" = true;`,
		"mdp module n endmodule module ^n endmodule",
		"mdp module n endmodule module o endmodule module ^n endmodule",
	} {
		refuses(t, s, api.ErrName)
	}
}

// P9.1: of several the first one by the chapter's order.
func TestNamesInTheirOrder(t *testing.T) {
	refuses(t, "mdp const a = 1; const b = 2; const ^b = 3; const a = 4;", api.ErrName)
	refuses(t, "mdp const a = 1; const ^a = 2; const a = 3;", api.ErrName)
	refuses(t, "mdp formula f = 1; formula f = 2; const a = 1; const ^a = 2;", api.ErrName)
	refuses(t, "mdp module m x : bool; x : bool; endmodule formula f = 1; formula ^f = 2;", api.ErrName)
	refuses(t, "mdp module m x : bool; y : bool; endmodule module o ^y : bool; x : bool; endmodule", api.ErrName)
	refuses(t, `mdp label "a" = 1; label "a" = 1; module m x : bool; ^x : bool; endmodule`, api.ErrName)
	refuses(t, `mdp module m endmodule module m endmodule label "a" = 1; label ^"a" = 1;`, api.ErrName)
	refuses(t, `mdp module m endmodule module m endmodule const a = 1; module o ^a : bool; endmodule`, api.ErrName)
	refuses(t, `mdp label "a" = 1; label "b" = 1; label ^"b" = 2; label "a" = 2;`, api.ErrName)
	refuses(t, "mdp module m endmodule module o endmodule module ^o endmodule module m endmodule", api.ErrName)
	// Behind them come the values.
	refuses(t, "mdp const A = A; const B = true + 1; module m endmodule module ^m endmodule", api.ErrName)
	refuses(t, `mdp const A = x; label "a" = A; label ^"a" = A;`, api.ErrName)
	refuses(t, "mdp const A = A; const ^A = 1;", api.ErrName)
}

// P9.1: labels' texts and modules' names are apart from the names, and from each
// other.
func TestNamesThatMayBeThereTwice(t *testing.T) {
	folds(t, `mdp const a = 1; formula b = 2; label "a" = a = b; label "b" = x; label "x" = x; label "m" = x;
		module a x : bool; endmodule module b endmodule module x endmodule module m m : [a..1]; endmodule`,
		`mdp label "a" = 1 = 2; label "b" = x; label "x" = x; label "m" = x;
		module a x : bool; endmodule module b endmodule module x endmodule module m m : [1..1]; endmodule`)
	folds(t, "mdp const a = 1; const A = 2; const aa = 3; module m _a : [a..A] init aa; endmodule", "mdp module m _a : [1..2] init 3; endmodule")
}

// P9.1
func TestConstantsThatAskForOtherThings(t *testing.T) {
	refuses(t, "mdp const A = ^f; formula f = 1;", api.ErrName)
	refuses(t, "mdp const A = 1 + ^x; module m x : bool; endmodule", api.ErrName)
	refuses(t, "mdp const A = 2 * (1 + ^nobody);", api.ErrName)
	refuses(t, `mdp const A = ^a; label "a" = true;`, api.ErrName)
	refuses(t, "mdp const A = ^m; module m endmodule", api.ErrName)
	refuses(t, "mdp const A = B; const B = C + ^c; const C = 1;", api.ErrName)
	refuses(t, "mdp const A = ^a;", api.ErrName)
}

// P9.1
func TestConstantsThatAskForThemselves(t *testing.T) {
	refuses(t, "mdp const A = ^A;", api.ErrCycle)
	refuses(t, "mdp const A = 1 + ^A * 2;", api.ErrCycle)
	refuses(t, "mdp const A = B; const B = C; const C = ^A;", api.ErrCycle)
	refuses(t, "mdp const C = A; const A = B + C; const B = 1 + 2 * ^C;", api.ErrCycle)
	refuses(t, "mdp const A = B; const B = C; const C = 1 + ^B;", api.ErrCycle)
	refuses(t, "mdp const A = B; const B = 1 + ^B;", api.ErrCycle)
	refuses(t, "mdp const X = 1; const A = X + B; const B = X + C; const C = X + ^A;", api.ErrCycle)
	refuses(t, "mdp const A = true | B; const B = C; const C = ^B;", api.ErrCycle)
	refuses(t, "mdp const A = true & ^A;", api.ErrCycle)
	// To be asked for twice is no fault.
	worth(t, "mdp const A = B + B + C; const B = C; const C = 1;", num("A", 3), num("B", 1), num("C", 1))
}

// P9.1: what isn't asked for isn't found out for it.
func TestConstantsThatAreNotAsked(t *testing.T) {
	worth(t, "mdp const A = false & A;", truth("A", false))
	worth(t, "mdp const A = true | A;", truth("A", true))
	worth(t, "mdp const A = false => A;", truth("A", true))
	worth(t, "mdp const A = true ? 1 : A;", num("A", 1))
	worth(t, "mdp const A = false ? A : 1;", num("A", 1))
	worth(t, "mdp const A = true | nobody | f | x; formula f = 1; module m x : bool; endmodule", truth("A", true))
	worth(t, "mdp const A = B | A; const B = C => A; const C = 1 > 2;", truth("A", true), truth("B", true), truth("C", false))
	worth(t, "mdp const A = 1 < 2 | A & nobody; const B = A ? (A | x ? 3 : B) : nobody;", truth("A", true), num("B", 3))
}

// P9.1: the right side is asked as soon as the left one doesn't tell.
func TestConstantsThatAreAsked(t *testing.T) {
	refuses(t, "mdp const A = true & ^A;", api.ErrCycle)
	refuses(t, "mdp const A = false | ^A;", api.ErrCycle)
	refuses(t, "mdp const A = true => ^A;", api.ErrCycle)
	refuses(t, "mdp const A = true ? ^A : 1;", api.ErrCycle)
	refuses(t, "mdp const A = false ? 1 : ^A;", api.ErrCycle)
	refuses(t, "mdp const A = B & ^nobody; const B = true;", api.ErrName)
	refuses(t, "mdp const A = B & 1 > 2 | ^x; const B = true; module m x : bool; endmodule", api.ErrName)
	refuses(t, "mdp const A = B | ^A; const B = C & A; const C = 1 > 2;", api.ErrCycle)
	// What isn't found out for one is found out for itself.
	refuses(t, "mdp const A = false & B; const B = ^nobody;", api.ErrName)
	refuses(t, "mdp const A = true | B; const B = 1 + ^B;", api.ErrCycle)
}

// P9.1: the first error counts, as they come to be found out.
func TestConstantsWithTwoErrors(t *testing.T) {
	refuses(t, "mdp const A = ^nobody; const B = B;", api.ErrName)
	refuses(t, "mdp const A = ^A; const B = nobody;", api.ErrCycle)
	refuses(t, "mdp const A = B; const B = ^true + 1; const C = nobody;", api.ErrType)
	refuses(t, "mdp const A = C; const B = true + 1; const C = ^nobody;", api.ErrName)
	refuses(t, "mdp const A = B + nobody; const B = ^true + C; const C = C;", api.ErrType)
	refuses(t, "mdp const A = ^true + B; const B = nobody;", api.ErrType)
	refuses(t, "mdp const A = ^nobody + B; const B = true + 1;", api.ErrName)
	refuses(t, "mdp const A = B + nobody; const B = 1 + ^other;", api.ErrName)
	refuses(t, "mdp const A = ^B + nobody; const B = true;", api.ErrType)
	refuses(t, "mdp const A = B = ^C; const B = true; const C = 1;", api.ErrType)
	refuses(t, "mdp const A = B = C; const B = true; const C = 1 + ^B;", api.ErrType)
	refuses(t, "mdp const A = 1 + B + ^A; const B = 1;", api.ErrCycle)
	refuses(t, "mdp const A = C + D; const C = E; const D = F; const E = 1 + ^C; const F = D;", api.ErrCycle)
}

// P9.2: Consts' error comes ahead of all.
func TestConstantsComeAheadOfAll(t *testing.T) {
	refuses(t, `mdp label "a" = nobody; formula f = f; module m x : [y..2]; [] nobody -> true; endmodule const A = ^A;`, api.ErrCycle)
	refuses(t, "mdp formula f = f; const A = 1 + ^true;", api.ErrType)
	refuses(t, `mdp formula f = nobody; label "a" = true; label ^"a" = true;`, api.ErrName)
	refuses(t, "mdp formula f = x; module m x : [nobody..1]; endmodule const A = ^f;", api.ErrName)
}

// P9.2
func TestModelsWithoutConstantsAndFormulas(t *testing.T) {
	for _, s := range []string{
		"mdp",
		`mdp label "a" = true; label "b" = 1 + 2;`,
		"mdp module m endmodule module o endmodule",
		`mdp label "a" = x > 1 & !y; module m x : [0..3] init 1 + 1; y : bool; z : bool init true;
			[] x < 3 -> (x' = x + 1); [go] true -> 2 : (y' = x > 1 => y) & (x' = y ? 0 : 1) + true; endmodule
			module n w : [-1..2 * 3]; [go] w = x -> 3 : true; endmodule`,
	} {
		m := read(t, s)
		if x, err := Fold(m); !reflect.DeepEqual(x, m) || err != nil {
			t.Errorf("Fold(%s): %+v, %v; want it as it is", short(s), x, err)
		}
	}
}

// P9.2
func TestAllExpressionsAreExpanded(t *testing.T) {
	folds(t, `mdp const N = 2; formula f = x + N; const T = N < 3; formula g = f * N; formula h = T & y;
		label "a" = g = f; label "b" = h | T; label "c" = (N = f) ? N : -f;
		module m x : [N..N * N] init N + 1; y : bool init T; z : bool init !T; w : [-N..5];
		[go] g < N & h -> 2 : (x' = f) & (y' = h) + (w' = N) + true; endmodule
		module n v : [0..N]; [] f = v -> true; [go] T -> (v' = g - f); endmodule`,
		`mdp label "a" = (x + 2) * 2 = x + 2; label "b" = true & y | true; label "c" = (2 = x + 2) ? 2 : -(x + 2);
		module m x : [2..2 * 2] init 2 + 1; y : bool init true; z : bool init !true; w : [-2..5];
		[go] (x + 2) * 2 < 2 & (true & y) -> 2 : (x' = x + 2) & (y' = true & y) + (w' = 2) + true; endmodule
		module n v : [0..2]; [] x + 2 = v -> true; [go] true -> (v' = (x + 2) * 2 - (x + 2)); endmodule`)
	// What is set, actions, labels and modules aren't names that stand for something.
	folds(t, `mdp const N = 2; formula f = N; label "N" = f = 2; module N f1 : bool; [N] true -> (f' = true) & (N' = true) & (nobody' = f1); endmodule`,
		`mdp label "N" = 2 = 2; module N f1 : bool; [N] true -> (f' = true) & (N' = true) & (nobody' = f1); endmodule`)
}

// P9.2: constants become literals, also of numbers below 0.
func TestConstantsBecomeLiterals(t *testing.T) {
	const consts = "mdp const low = -9223372036854775807 - 1; const n = -3; const zero = 0; const yes = true; const no = 1 > 2; "
	for name, right := range map[string]expr.Expr{
		"low": {Op: "num", N: math.MinInt64}, "n": {Op: "num", N: -3}, "zero": {Op: "num"}, "yes": {Op: "true"}, "no": {Op: "false"},
	} {
		text, pos := marked(t, consts+`label "a" = ^`+name+";")
		right.Pos = pos
		if e := labelOf(t, text); !reflect.DeepEqual(e, right) {
			t.Errorf("%s: %+v; want %+v", name, e, right)
		}
		// And so they do within others, and within formulas.
		text, pos = marked(t, consts+"formula f = "+name+` + 1; label "a" = -^f;`)
		left := right
		left.Pos = strings.Index(text, name+" + 1")
		want := expr.Expr{Op: "+", Kids: []expr.Expr{left, {Op: "num", N: 1, Pos: left.Pos + len(name+" + ")}}, Pos: pos}
		if e := labelOf(t, text); e.Op != "neg" || !reflect.DeepEqual(e.Kids, []expr.Expr{want}) {
			t.Errorf("%s: %+v; want %+v", name, e, want)
		}
	}
	x := folded(t, "mdp module m x : [n..b] init a; endmodule const n = -3; const a = n + 1; const b = a + 1;")
	if v := x.Modules[0].Vars[0]; v.Low.Op != "num" || v.Low.N != -3 || v.High.N != -1 || v.Init.N != -2 || v.Low.Pos != 18 || v.High.Pos != 21 || v.Init.Pos != 29 {
		t.Errorf("Low, High and Init: %+v", v)
	}
}

// P9.2: what stands for a name has the name's place, all within it keep theirs.
func TestPlaces(t *testing.T) {
	s := `mdp const N = 7; formula f = x * N; formula g = (f - 1); formula h = g; formula k = N; label "a" = h < k; module m x : bool; endmodule`
	at := func(part string, behind int) int { return strings.Index(s, part) + behind }
	right := expr.Expr{Op: "<", Pos: at("h < k", 0), Kids: []expr.Expr{
		{Op: "-", Pos: at("h < k", 0), Kids: []expr.Expr{
			{Op: "*", Pos: at("f - 1", 0), Kids: []expr.Expr{
				{Op: "name", Name: "x", Pos: at("x * N", 0)},
				{Op: "num", N: 7, Pos: at("x * N", 4)},
			}},
			{Op: "num", N: 1, Pos: at("f - 1", 4)},
		}},
		{Op: "num", N: 7, Pos: at("h < k", 4)},
	}}
	if e := labelOf(t, s); !reflect.DeepEqual(e, right) {
		t.Errorf("Fold(%q): %+v; want %+v", s, e, right)
	}
	// The same formula at two places.
	s = `mdp formula f = x; label "a" = f + f; module m x : bool; endmodule`
	if e := labelOf(t, s); e.Kids[0].Pos != at("f + f", 0) || e.Kids[1].Pos != at("f + f", 4) || e.Kids[0].Name != "x" || e.Kids[1].Name != "x" {
		t.Errorf("Fold(%q): %+v", s, e)
	}
	// All other places stay.
	m := read(t, `mdp label "a" = x; module m x : [0..1]; [go] x < 1 -> 2 : (x' = 1) + true; endmodule`)
	if x, err := Fold(m); !reflect.DeepEqual(x, m) || err != nil {
		t.Errorf("Fold: %+v, %v; want %+v", x, err, m)
	}
}

// P9.2
func TestFormulasOfFormulas(t *testing.T) {
	const behind = ` label "a" = f; module m x : [0..9]; endmodule`
	for s, right := range map[string]string{
		"formula f = x;": "x",
		"formula f = g; formula g = h; formula h = x + 1;":                     "x + 1",
		"formula h = x + 1; formula g = h; formula f = g;":                     "x + 1",
		"formula g = h * h; formula f = g - g; formula h = 2;":                 "2 * 2 - 2 * 2",
		"formula g = h - h; formula f = g - g; formula h = 2;":                 "2 - 2 - (2 - 2)",
		"formula f = (g => g) | h; formula g = x < 1; formula h = g ? g : !g;": "(x < 1 => x < 1) | (x < 1 ? x < 1 : !x < 1)",
		"const f1 = 3; formula f = f1 + f2; formula f2 = f1;":                  "3 + 3",
	} {
		if e := labelOf(t, "mdp "+s+behind); expr.Print(e) != right {
			t.Errorf("Fold(%q): %s; want %s", s, expr.Print(e), right)
		}
	}
}

// P9.2: also those for which nobody asks.
func TestFormulasThatAreWrong(t *testing.T) {
	unfoldable(t, "mdp formula f = 1 + ^nobody;", api.ErrName)
	unfoldable(t, `mdp label "a" = true; formula f = ^a;`, api.ErrName)
	unfoldable(t, "mdp formula f = ^m; module m endmodule", api.ErrName)
	unfoldable(t, "mdp formula f = ^f;", api.ErrCycle)
	unfoldable(t, "mdp formula f = 1 + ^f;", api.ErrCycle)
	unfoldable(t, "mdp formula f = 1 + g; formula g = ^f;", api.ErrCycle)
	unfoldable(t, "mdp formula f = g; formula g = h; formula h = x & ^f; module m x : bool; endmodule", api.ErrCycle)
	unfoldable(t, "mdp formula f = g; formula g = h; formula h = ^g;", api.ErrCycle)
	unfoldable(t, "mdp formula f = g + g; formula g = 1 - ^g;", api.ErrCycle)
	// Of formulas all is expanded, though value wouldn't ask for it.
	unfoldable(t, "mdp formula f = false & ^f;", api.ErrCycle)
	unfoldable(t, "mdp formula f = true | 1 = ^nobody;", api.ErrName)
	unfoldable(t, "mdp formula f = true ? 1 : g; formula g = ^f;", api.ErrCycle)
	unfoldable(t, `mdp label "a" = true | ^nobody;`, api.ErrName)
	// And nothing is reckoned.
	folds(t, `mdp formula f = true + 1; label "a" = !f & 2;`, `mdp label "a" = !(true + 1) & 2;`)
	folds(t, `mdp const n = 9223372036854775807; formula f = n + 1; label "a" = f * 2;`, `mdp label "a" = (9223372036854775807 + 1) * 2;`)
}

// P9.2: of formulas with two errors the first one counts, in the order in which
// they are expanded.
func TestFormulasWithTwoErrors(t *testing.T) {
	unfoldable(t, "mdp formula f = ^nobody; formula g = g;", api.ErrName)
	unfoldable(t, "mdp formula f = ^f; formula g = nobody;", api.ErrCycle)
	unfoldable(t, "mdp formula f = ^nobody + other;", api.ErrName)
	unfoldable(t, "mdp formula f = ^nobody + f;", api.ErrName)
	unfoldable(t, "mdp formula f = ^f + nobody;", api.ErrCycle)
	unfoldable(t, "mdp formula f = g + nobody; formula g = 1 + ^other;", api.ErrName)
	unfoldable(t, "mdp formula f = ^nobody + g; formula g = other;", api.ErrName)
	unfoldable(t, "mdp formula f = h; formula g = nobody; formula h = h2; formula h2 = ^other;", api.ErrName)
	unfoldable(t, "mdp formula f = g + h; formula g = h; formula h = k + ^f; formula k = 1;", api.ErrCycle)
}

// P9.2: Low, High and Init ask for constants alone.
func TestBoundsAskForConstantsAlone(t *testing.T) {
	for _, name := range []string{"f", "x", "y", "nobody", "m", "l"} {
		const other = `formula f = 1; label "l" = true; module o y : [0..1]; endmodule`
		for _, s := range []string{"[^N..1]", "[1 + ^N..1] init 1", "[0..^N]", "[0..2 * ^N]", "[0..1] init ^N", "bool init 1 < ^N", "bool init ^N"} {
			unfoldable(t, "mdp "+other+" module m x : "+strings.ReplaceAll(s, "N", name)+"; endmodule", api.ErrName)
			folds(t, "mdp const N = 1; module m x : "+strings.Replace(s, "^", "", 1)+"; endmodule",
				"mdp module m x : "+strings.NewReplacer("^N", "1").Replace(s)+"; endmodule")
		}
	}
}

// P9.2: elsewhere all may be asked that is there.
func TestNamesOfNothing(t *testing.T) {
	const behind = ` label "l" = true; module o y : [0..1]; endmodule`
	for _, name := range []string{"nobody", "l", "m", "o", "Y", "go"} {
		for _, s := range []string{
			`label "a" = 1 + ^N; module m endmodule`,
			"module m [go] ^N -> true; endmodule",
			"module m [] 1 < 1 * ^N -> true; endmodule",
			"module m [] true -> (y' = ^N); endmodule",
			"module m [] true -> (y' = 1) & (y' = !^N); endmodule",
			"module m [] true -> true + (y' = 1) & (y' = y + ^N); endmodule",
			"module m [] true -> (y' = 2); [] true -> (y' = 1) + (y' = ^N); endmodule",
		} {
			unfoldable(t, "mdp "+strings.ReplaceAll(s, "N", name)+behind, api.ErrName)
		}
	}
}

// P9.2: the order in which expressions are looked at: one is wrong, and all
// behind it are, too.
func TestTheOrderOfErrors(t *testing.T) {
	s := `mdp module m x : [E6..E7] init E8; y : bool init E9;
		[] EA -> (x' = EB) & (x' = EC) + (x' = ED); [] EE -> true + (y' = EF); endmodule
		module n z : bool init EG; [] EH -> (z' = EI); endmodule
		label "a" = E4; label "b" = 1 + E5; formula f = E2; formula g = E3; const c = E0; const d = E1;`
	const order = "0123456789ABCDEFGHI"
	for i := range order {
		text := s
		for n, letter := range order {
			what := "1"
			switch {
			case n == i:
				what = "^nobody"
			case n > i:
				what = "other"
			}
			text = strings.Replace(text, "E"+string(letter), what, 1)
		}
		text, pos := marked(t, text)
		if i < 2 {
			constsFail(t, read(t, text), api.ErrName, pos)
			continue
		}
		foldFails(t, read(t, text), api.ErrName, pos)
	}
}

// doubles: formulas d0 to d11, each of which has twice as many Exprs as the one
// ahead of it, and one: the last one has 4095. They are given from the last one
// on, if so.
func doubles(backward bool) string {
	l := []string{"formula d0 = x; "}
	for i := 1; i < 12; i++ {
		ahead := "d" + strconv.Itoa(i-1)
		l = append(l, "formula d"+strconv.Itoa(i)+" = "+ahead+" + "+ahead+"; ")
	}
	if backward {
		slices.Reverse(l)
	}
	return strings.Join(l, "")
}

// P9.2: of 4096 Exprs, and of one more.
func TestLongExpressions(t *testing.T) {
	for _, s := range []string{
		"formula f = ^E;",
		`label "a" = ^E;`,
		"module m [] ^E -> true; endmodule",
		"module m [] true -> (x' = ^E); endmodule",
		"module m [] true -> true + (x' = 1) & (x' = ^E); endmodule",
	} {
		s = s + " module o x : [0..1]; endmodule"
		for _, backward := range []bool{false, true} {
			for _, just := range []string{"d11", "-d11", "!d11", "d10 + -d10", "-(d10 + d10)"} {
				x := folded(t, "mdp "+doubles(backward)+strings.Replace(s, "^E", just, 1))
				if again, err := Fold(x); !reflect.DeepEqual(again, x) || err != nil {
					t.Errorf("folded again: %v", err)
				}
			}
			for _, more := range []string{
				"d11 + 1", "1 + d11", "-(-d11)", "(!(-(d11)))", "d11 ? 1 : 2", "d10 + d10 + 1", "d11 + d11 + d11", "-(d10 * d10 - d0)", "d11 + -x",
			} {
				unfoldable(t, "mdp "+doubles(backward)+strings.Replace(s, "E", more, 1), api.ErrLong)
			}
		}
	}
	if e := labelOf(t, "mdp "+doubles(true)+`label "a" = -d11; module m x : bool; endmodule`); expr.Size(e) != 4096 {
		t.Errorf("it has %d", expr.Size(e))
	}
}

// ones: a sum of 1, n times.
func ones(n int) string {
	return strings.Repeat("1 + ", n-1) + "1"
}

// P9.2: those that were written so.
func TestLongExpressionsWithoutNames(t *testing.T) {
	for _, s := range []string{
		"formula f = ^E;", `label "a" = ^E;`, "module m x : [^E..1]; endmodule", "module m x : [0..^E]; endmodule", "module m x : [0..1] init ^E; endmodule",
		"module m x : bool init ^E; endmodule", "module m [] ^E -> true; endmodule", "module m [] true -> (x' = ^E); endmodule",
	} {
		for _, just := range []string{ones(2048), "-" + ones(2048), "(-1) + " + ones(2047)} {
			folded(t, "mdp "+strings.Replace(s, "^E", just, 1))
		}
		for _, more := range []string{ones(2049), "-1 + " + ones(2048), "-(" + ones(2048) + ") + 1", "(" + ones(3000) + ")"} {
			unfoldable(t, "mdp "+strings.Replace(s, "E", more, 1), api.ErrLong)
		}
	}
	// Constants aren't expanded.
	folds(t, "mdp const n = "+ones(4000)+"; module m x : [0..n]; endmodule", "mdp module m x : [0..4000]; endmodule")
	folds(t, "mdp const n = "+ones(2049)+"; module m x : ["+strings.Repeat("n+", 2047)+"n..n]; endmodule",
		"mdp module m x : ["+strings.Repeat("2049+", 2047)+"2049..2049]; endmodule")
	unfoldable(t, "mdp const n = 1; module m x : [0..^n"+strings.Repeat("+n", 2048)+"]; endmodule", api.ErrLong)
}

// P9.2: a formula that is too long is told where it is, by whomever it is asked;
// names that are wrong are told ahead of that.
func TestLongExpressionsAndOtherErrors(t *testing.T) {
	const behind = ` module m x : bool; endmodule`
	unfoldable(t, "mdp "+doubles(false)+"formula f = g + 1; formula g = ^1 + d11;"+behind, api.ErrLong)
	unfoldable(t, "mdp "+doubles(false)+"formula f = g + nobody; formula g = ^1 + d11;"+behind, api.ErrLong)
	unfoldable(t, "mdp "+doubles(false)+"formula f = ^nobody + g; formula g = 1 + d11;"+behind, api.ErrName)
	unfoldable(t, "mdp "+doubles(false)+"formula f = d11 + d11 + ^nobody;"+behind, api.ErrName)
	unfoldable(t, "mdp "+doubles(false)+"formula f = d11 + d11 + ^f;"+behind, api.ErrCycle)
	unfoldable(t, "mdp "+doubles(false)+`label "a" = d11 + d11 + ^nobody;`+behind, api.ErrName)
	unfoldable(t, "mdp "+doubles(false)+`label "a" = ^d11 + d11; label "b" = nobody;`+behind, api.ErrLong)
	unfoldable(t, "mdp "+doubles(false)+`label "a" = ^nobody; label "b" = d11 + d11;`+behind, api.ErrName)
	unfoldable(t, "mdp "+doubles(false)+`label "a" = nobody; formula f = ^d11 + d11;`+behind, api.ErrLong)
	// What doubles on and on ends, too.
	s := "mdp formula e0 = x;"
	for i := 1; i < 200; i++ {
		ahead := "e" + strconv.Itoa(i-1)
		if i == 12 {
			ahead = "^" + ahead
		}
		s += " formula e" + strconv.Itoa(i) + " = " + ahead + " + e" + strconv.Itoa(i-1) + ";"
	}
	unfoldable(t, s+behind, api.ErrLong)
}

// whole: a model with something of each kind.
const whole = `mdp const N = M + 1; const M = -2; const T = N < 0; formula f = x + N; formula g = (f * f) - N; formula h = T => y;
	label "a" = g > M; label "b" = h; label "c" = h | f = g & T;
	module m x : [N..M * M] init M + 1; y : bool init T; [go] g < 9 & h -> 3 : (x' = f) & (y' = h) + true; [] T -> (x' = N); endmodule
	module n z : bool; w : [M..9]; [go] f = g -> (w' = f) + 2 : (z' = !h) & (w' = g); [] h -> true; endmodule`

// P9.3
func TestFoldedAgain(t *testing.T) {
	for _, s := range []string{"mdp", whole, "mdp const a = 1; formula f = a;", "mdp " + doubles(true) + `label "a" = d10 = d5; module m x : bool; endmodule`} {
		x := folded(t, s)
		again, err := Fold(x)
		if !reflect.DeepEqual(again, x) || err != nil {
			t.Errorf("Fold(%s) again: %s, %v", short(s), short(model.Print(again)), err)
		}
		if l, err := Consts(x); len(l) != 0 || err != nil || len(x.Consts) != 0 || len(x.Formulas) != 0 {
			t.Errorf("Fold(%s) has constants: %v, %v, or formulas: %v", short(s), l, err, x.Formulas)
		}
		// And so it does when it is told and read.
		if again, err := Fold(read(t, model.Print(x))); model.Print(again) != model.Print(x) || err != nil {
			t.Errorf("Fold(%s) told, and again: %s, %v", short(s), short(model.Print(again)), err)
		}
	}
}

// P9.3: worth the same, with the places of errors.
func TestWorthTheSame(t *testing.T) {
	vars := []value.Bind{num("x", 3), truth("y", true), num("big", math.MaxInt64)}
	const behind = ` module m x : [0..9]; y : bool; big : [0..9]; endmodule`
	for s, right := range map[string]value.Value{
		`const N = 2; formula f = x + N; label "a" = f * f;`:                         value.Number(25),
		`const N = 2; formula f = x < N; formula g = f | y; label "a" = !f => g;`:    value.Truth(true),
		`const T = false; formula f = x + true; label "a" = T & f;`:                  value.Truth(false),
		`const T = true; formula f = x + true; label "a" = T ? x : f;`:               value.Number(3),
		`const T = 1 > 2; formula f = T ? big + 1 : x - 5; label "a" = f;`:           value.Number(-2),
		`const N = -9223372036854775807 - 1; formula f = big + N; label "a" = f=-1;`: value.Truth(true),
	} {
		if v, err := value.Eval(labelOf(t, "mdp "+s+behind), vars); v != right || err != nil {
			t.Errorf("%q: %v, %v; want %v", s, v, err, right)
		}
	}
	for s, errno := range map[string]api.Errno{
		`formula f = x + 1; label "a" = 2 < 3 & ^f;`:                 api.ErrType,
		`formula f = 1 + (x = ^y); label "a" = f;`:                   api.ErrType,
		`formula f = big + 1; label "a" = 2 * ^f;`:                   api.ErrOver,
		`formula f = g; formula g = big + 1; label "a" = 2 * ^f;`:    api.ErrOver,
		`formula f = 1 + ^g; formula g = big + 1; label "a" = f;`:    api.ErrOver,
		`const T = true; formula f = T; label "a" = x + ^f;`:         api.ErrType,
		`const T = true; label "a" = x + ^T;`:                        api.ErrType,
		`const N = 1; formula f = -(1 - N * ^y); label "a" = f + f;`: api.ErrType,
	} {
		text, pos := marked(t, "mdp "+s+behind)
		if v, err := value.Eval(labelOf(t, text), vars); v != (value.Value{}) || !isAt(err, errno, pos) {
			t.Errorf("%q: %v, %v; want %d at %d", text, v, err, errno, pos)
		}
	}
}

// P9.2, R4 and R6: what is handed in stays as it is, and nothing is kept of it.
func TestNothingIsChangedOrKept(t *testing.T) {
	for _, s := range []string{
		whole, "mdp const A = B; const B = 1 + A;", "mdp const A = 1; formula f = A + g; formula g = f;", "mdp const A = 1; const A = 2;",
		"mdp const A = 1; formula f = A; module m x : [A..2] init f; endmodule", "mdp " + doubles(true) + ` label "a" = d11 + d11; module m x : bool; endmodule`,
	} {
		m := read(t, s)
		l, first := Consts(m)
		x, second := Fold(m)
		if !reflect.DeepEqual(m, read(t, s)) {
			t.Fatalf("%s: it is changed to %s", short(s), short(model.Print(m)))
		}
		told := model.Print(x)
		clear(l)
		spoil(reflect.ValueOf(&x).Elem())
		if !reflect.DeepEqual(m, read(t, s)) {
			t.Errorf("%s: what was told shares memory with it", short(s))
		}
		if again, err := Fold(m); model.Print(again) != told || !reflect.DeepEqual(err, second) {
			t.Errorf("%s: %s, %v; again %s, %v", short(s), short(told), second, short(model.Print(again)), err)
		}
		if _, err := Consts(m); !reflect.DeepEqual(err, first) || first != nil && err == first {
			t.Errorf("%s: %v; again %v", short(s), first, err)
		}
	}
}

// spoil: all that can be come to becomes zero, up to the ends of what the lists
// may hold.
func spoil(v reflect.Value) {
	switch v.Kind() {
	case reflect.Struct:
		for i := range v.NumField() {
			spoil(v.Field(i))
		}
	case reflect.Slice:
		for i := range v.Len() {
			spoil(v.Index(i))
		}
		v.Slice(0, v.Cap()).Clear()
	}
}

// R4: no two lists of one answer share memory.
func TestListsOfOneAnswer(t *testing.T) {
	for _, s := range []string{whole, "mdp " + doubles(false) + `label "a" = d5 + d5; label "b" = d5; module m x : bool; [] d5 -> (x' = d5); endmodule`} {
		seen := map[*expr.Expr]int{}
		var walk func(v reflect.Value)
		walk = func(v reflect.Value) {
			switch v.Kind() {
			case reflect.Struct:
				for i := range v.NumField() {
					walk(v.Field(i))
				}
			case reflect.Slice:
				if l, ok := v.Interface().([]expr.Expr); ok {
					for i := range l[:cap(l)] {
						seen[&l[:cap(l)][i]]++
					}
				}
				for i := range v.Len() {
					walk(v.Index(i))
				}
			}
		}
		walk(reflect.ValueOf(folded(t, s)))
		for e, n := range seen {
			if n > 1 {
				t.Fatalf("Fold(%s): %s is in %d lists", short(s), expr.Print(*e), n)
			}
		}
	}
}

// name, of and at: expressions, of which only at's has a place.
func name(s string) expr.Expr                   { return expr.Expr{Op: "name", Name: s} }
func of(op string, kids ...expr.Expr) expr.Expr { return expr.Expr{Op: op, Kids: kids} }
func at(pos int, e expr.Expr) expr.Expr         { e.Pos = pos; return e }

// consts: a model that has constants alone.
func consts(l ...model.Def) model.Model { return model.Model{Consts: l} }

// P9.1: places may be any numbers, all of them the same one, too.
func TestAnyPlaces(t *testing.T) {
	two := model.Def{Name: "B", X: expr.Expr{Op: "num", N: 2}}
	for _, pos := range []int{0, 7, -1, math.MaxInt, math.MinInt} {
		sum := func(l, r expr.Expr) expr.Expr { return at(pos, of("+", at(pos, l), at(pos, r))) }
		constsFail(t, consts(model.Def{Name: "A", X: sum(name("B"), name("C"))}, two), api.ErrName, pos)
		constsFail(t, consts(model.Def{Name: "A", X: sum(name("B"), name("A"))}, two), api.ErrCycle, pos)
		constsFail(t, consts(model.Def{Name: "A", X: sum(name("B"), of("true"))}, two), api.ErrType, pos)
		constsFail(t, consts(model.Def{Name: "A", X: sum(name("B"), of("neg"))}, two), api.ErrArg, pos)
		constsFail(t, consts(two, model.Def{Name: "B", Pos: pos}), api.ErrName, pos)
		m := consts(model.Def{Name: "A", X: sum(sum(name("B"), name("B")), name("C")), Pos: pos}, two, model.Def{Name: "C", X: at(pos, name("B"))})
		if l, err := Consts(m); err != nil || !slices.Equal(l, []value.Bind{num("A", 6), num("B", 2), num("C", 2)}) {
			t.Errorf("Consts at %d: %v, %v", pos, l, err)
		}
		m.Labels = []model.Def{{X: at(pos, name("D"))}}
		foldFails(t, m, api.ErrName, pos)
	}
}

// P9.1 and P9.2: names are what their bytes are.
func TestNamesThatNoTextHas(t *testing.T) {
	odd := []string{"", " ", "x y", "true", "false", "num", "name", "\x00", "\xff", "\xfe", "mdp"}
	var m model.Model
	for i, s := range odd {
		m.Consts = append(m.Consts, model.Def{Name: s, X: expr.Expr{Op: "num", N: int64(i)}})
		m.Formulas = append(m.Formulas, model.Def{Name: s + "f", X: of("-", name(s), of("true"))})
		m.Labels = append(m.Labels, model.Def{Name: s, X: name(s + "f")})
	}
	x, err := Fold(m)
	if err != nil {
		t.Fatalf("Fold: %v", err)
	}
	for i, d := range x.Labels {
		if right := of("-", expr.Expr{Op: "num", N: int64(i)}, of("true")); d.Name != odd[i] || !reflect.DeepEqual(d.X, right) {
			t.Errorf("the label %q: %+v; want %+v", d.Name, d.X, right)
		}
	}
	for i := range odd {
		again := m
		again.Consts = append(slices.Clone(m.Consts), model.Def{Name: odd[i], Pos: 9})
		constsFail(t, again, api.ErrName, 9)
	}
}

// R1 and P9.3: what value refuses stays as it is, but for the names in it.
func TestOddExpressions(t *testing.T) {
	vars := []value.Bind{num("x", 3)}
	for _, odd := range []expr.Expr{
		{}, of("nothing", name("N")), of("+"), of("+", name("N")), of("?", name("f"), name("x")), of("num", name("x")), of("true", name("N")),
		{Op: "name", Name: "N", Kids: []expr.Expr{name("f")}}, {Op: "name", Name: "f", Kids: []expr.Expr{name("N"), name("x")}},
		{Op: "name", Name: "nobody", Kids: []expr.Expr{{}}}, {Op: "N", Name: "N"}, {Op: "+", Name: "f", N: 4, Kids: []expr.Expr{name("N")}},
	} {
		m := model.Model{
			Consts:   []model.Def{{Name: "N", X: expr.Expr{Op: "num", N: 1}}},
			Formulas: []model.Def{{Name: "f", X: at(40, name("N"))}},
			Labels:   []model.Def{{X: of("+", name("N"), at(50, odd))}},
			Modules:  []model.Module{{Vars: []model.Var{{Name: "x", Bool: true}}}},
		}
		x, err := Fold(m)
		if err != nil {
			t.Errorf("Fold of %+v: %v", odd, err)
			continue
		}
		if v, err := value.Eval(x.Labels[0].X, vars); !isAt(err, api.ErrArg, 50) {
			t.Errorf("%+v, folded: %v, %v", odd, v, err)
		}
		if again, err := Fold(x); !reflect.DeepEqual(again, x) || err != nil {
			t.Errorf("%+v, folded again: %+v, %v; want %+v", odd, again, err, x)
		}
		constsFail(t, consts(model.Def{Name: "N", X: of("!", at(50, odd))}), api.ErrArg, 50)
	}
	// Names in it are looked at, and all of it is counted.
	m := model.Model{Labels: []model.Def{{X: at(3, of("nothing", at(4, of("", name("nobody")))))}}}
	m.Labels[0].X.Kids[0].Kids[0].Pos = 5
	foldFails(t, m, api.ErrName, 5)
	foldFails(t, model.Model{Labels: []model.Def{{X: at(3, of("nothing", make([]expr.Expr, 4096)...))}}}, api.ErrLong, 3)
	if _, err := Fold(model.Model{Labels: []model.Def{{X: at(3, of("nothing", make([]expr.Expr, 4095)...))}}}); err != nil {
		t.Errorf("of 4096: %v", err)
	}
}

// P9.2: a variable without bounds or without Init has none behind, either.
func TestExpressionsThatAVariableHasNot(t *testing.T) {
	odd := at(6, name("nobody"))
	m := model.Model{Modules: []model.Module{{Vars: []model.Var{
		{Name: "x", Bool: true, Low: odd, High: odd, Init: odd, Pos: 1},
		{Name: "y", Low: of("true"), High: of("false"), Init: odd, Pos: 2},
	}}}}
	right := model.Model{Modules: []model.Module{{Vars: []model.Var{
		{Name: "x", Bool: true, Pos: 1}, {Name: "y", Low: of("true"), High: of("false"), Pos: 2},
	}}}}
	if x, err := Fold(m); !reflect.DeepEqual(x, right) || err != nil {
		t.Errorf("Fold: %+v, %v; want %+v", x, err, right)
	}
}

// long: definitions, each of which asks for the next one by an expression.
func long(n int, by func(next expr.Expr) expr.Expr) []model.Def {
	l := make([]model.Def, n)
	for i := range l {
		l[i] = model.Def{Name: strconv.Itoa(i), X: by(at(i, name(strconv.Itoa(i+1)))), Pos: i}
	}
	return l
}

// R1: chains of very many names.
func TestLongChains(t *testing.T) {
	const n = 100000
	last := model.Def{Name: strconv.Itoa(n), X: expr.Expr{Op: "num", N: 5}}
	same := func(next expr.Expr) expr.Expr { return next }
	more := func(next expr.Expr) expr.Expr { return of("+", expr.Expr{Op: "num", N: 1}, next) }
	chain := long(n, more)
	l, err := Consts(consts(append(chain, last)...))
	if err != nil || len(l) != n+1 || l[0] != num("0", n+5) || l[n-1].V.N != 6 {
		t.Fatalf("Consts of a chain: %d, %v", len(l), err)
	}
	constsFail(t, consts(chain...), api.ErrName, n-1)
	constsFail(t, consts(append(chain, model.Def{Name: strconv.Itoa(n), X: at(n, name("7"))})...), api.ErrCycle, n)
	m := model.Model{Formulas: append(long(n, same), last), Labels: []model.Def{{X: at(3, name("0"))}}}
	if x, err := Fold(m); err != nil || !reflect.DeepEqual(x.Labels, []model.Def{{X: expr.Expr{Op: "num", N: 5, Pos: 3}}}) {
		t.Errorf("Fold of a chain: %+v, %v", x.Labels, err)
	}
	m.Formulas[n].X = at(n, name("7"))
	foldFails(t, m, api.ErrCycle, n)
	m.Formulas = append(long(n, more), last)
	for i := range n {
		m.Formulas[i].X.Pos = i
	}
	foldFails(t, m, api.ErrLong, n-2048)
}

// R1: one that asks for very many others, and trees of some thousands of nodes.
func TestGreatExpressions(t *testing.T) {
	const n = 3000
	l := []model.Def{{Name: "all", X: of("true")}}
	sum := expr.Expr{Op: "num"}
	deep := of("true")
	for i := range n {
		l = append(l, model.Def{Name: strconv.Itoa(i), X: expr.Expr{Op: "num", N: int64(i)}})
		sum = of("+", sum, name(strconv.Itoa(i)))
		deep = of("!", deep)
	}
	l[0].X = sum
	m := consts(append(l, model.Def{Name: "deep", X: deep})...)
	if l, err := Consts(m); err != nil || len(l) != n+2 || l[0] != num("all", n*(n-1)/2) || l[n+1] != truth("deep", true) {
		t.Errorf("Consts: %v", err)
	}
	m.Labels = []model.Def{{X: deep}}
	if x, err := Fold(m); err != nil || !reflect.DeepEqual(x.Labels, m.Labels) {
		t.Errorf("Fold: %v", err)
	}
}
