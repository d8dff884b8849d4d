package step

import (
	"errors"
	"math"
	"reflect"
	"slices"
	"strconv"
	"strings"
	"testing"

	"sortilege/api"
	"sortilege/check"
	"sortilege/expr"
	"sortilege/model"
	"sortilege/value"
)

// marked: a text without the ^ that stands in it, and its place.
func marked(t *testing.T, s string) (string, int) {
	t.Helper()
	pos := strings.Index(s, "^")
	if pos < 0 || strings.Count(s, "^") != 1 {
		t.Fatalf("%s has no mark, or several", short(s))
	}
	return s[:pos] + s[pos+1:], pos
}

// short: a text as it may be shown.
func short(s string) string {
	if len(s) > 600 {
		s = s[:600] + " and on, " + strconv.Itoa(len(s)) + " bytes"
	}
	return s
}

// laid: a text as a flat model.
func laid(t *testing.T, s string) check.Flat {
	t.Helper()
	m, err := model.Parse(s, 64)
	if err != nil {
		t.Fatalf("model.Parse(%s): %v", short(s), err)
	}
	f, err := check.Lay(m)
	if err != nil {
		t.Fatalf("check.Lay(%s): %v", short(s), err)
	}
	return f
}

// isAt: an error at a place, as errors.Is and errors.As tell it.
func isAt(err error, errno api.Errno, pos int) bool {
	var at *api.At
	return errors.Is(err, errno) && errors.As(err, &at) && at.Pos == pos
}

// state of these numbers.
func state(l ...int32) []int32 { return l }

// tell: a way as a line: its action, and of each outcome the weight and the state.
func tell(w Way) string {
	var l []string
	for _, n := range w.Next {
		s := strconv.FormatInt(n.Weight, 10) + ":"
		for _, i := range n.State {
			s += " " + strconv.Itoa(int(i))
		}
		l = append(l, s)
	}
	return "[" + w.Action + "] " + strings.Join(l, " + ")
}

// tellAll: ways as lines.
func tellAll(l []Way) string {
	var lines []string
	for _, w := range l {
		lines = append(lines, tell(w))
	}
	return strings.Join(lines, "\n")
}

// comes: of a text's model there are just these ways in a state.
func comes(t *testing.T, s string, in []int32, lines ...string) {
	t.Helper()
	l, err := Ways(laid(t, s), in)
	if err != nil || tellAll(l) != strings.Join(lines, "\n") {
		t.Errorf("Ways(%s, %v):\n%s, %v; want\n%s", short(s), in, short(tellAll(l)), err, short(strings.Join(lines, "\n")))
	}
}

// refuses: of a text's model there are no ways in a state for this error, at the
// mark.
func refuses(t *testing.T, s string, in []int32, errno api.Errno) {
	t.Helper()
	text, pos := marked(t, s)
	if l, err := Ways(laid(t, text), in); len(l) != 0 || !isAt(err, errno, pos) {
		t.Errorf("Ways(%s, %v): %d, %v; want %d at %d", short(text), in, len(l), err, errno, pos)
	}
}

// fails: there are no ways in a state for this error, which has no place.
func fails(t *testing.T, f check.Flat, in []int32, errno api.Errno) {
	t.Helper()
	if l, err := Ways(f, in); len(l) != 0 || err != error(errno) {
		t.Errorf("Ways(%s, %v): %d, %v; want %d", short(told(f)), in, len(l), err, errno)
	}
}

// told: a flat model's rules as they may be shown.
func told(f check.Flat) string {
	s := ""
	for _, r := range f.Rules {
		s += strconv.Itoa(r.Module) + "[" + r.Action + "]" + expr.Print(r.Guard) + " of " + strconv.Itoa(len(r.Branches)) + "; "
	}
	return s
}

// P12.2
func TestTheChaptersExample(t *testing.T) {
	const s = `mdp module a x : [0..1]; [go] x = 0 -> (x' = 1); endmodule
		module b y : [0..1]; [go] y = 1 -> 2 : (y' = 0) + true; endmodule`
	comes(t, s, state(0, 0))
	comes(t, s, state(1, 0))
	comes(t, s, state(1, 1))
	comes(t, s, state(0, 1), "[go] 2: 1 0 + 1: 1 1")
}

// P12.1
func TestFirst(t *testing.T) {
	for s, want := range map[string][]int32{
		"mdp": nil,
		"mdp module a [] true -> true; endmodule":               nil,
		"mdp module a x : [3..5]; endmodule":                    {3},
		"mdp module a x : [3..5] init 4; endmodule":             {4},
		"mdp module a b : bool; endmodule":                      {0},
		"mdp module a b : bool init false; endmodule":           {0},
		"mdp module a b : bool init true; endmodule":            {1},
		"mdp module a x : [-2147483648..2147483647]; endmodule": {math.MinInt32},
		"mdp module a x : [0..2147483647] init 2147483647; b : bool init true; endmodule module e endmodule module c y : [-9..9] init -3; endmodule": {
			math.MaxInt32, 1, -3},
	} {
		if l := First(laid(t, s)); !slices.Equal(l, want) {
			t.Errorf("First(%s): %v; want %v", s, l, want)
		}
	}
	many := "mdp"
	var want []int32
	for i := range int32(16) {
		n := strconv.Itoa(int(i))
		many += " module m" + n + " x" + n + " : [0..20] init " + n + "; endmodule"
		want = append(want, i)
	}
	if l := First(laid(t, many)); !slices.Equal(l, want) {
		t.Errorf("First of 16 variables: %v", l)
	}
}

// P12.1
func TestBind(t *testing.T) {
	f := laid(t, "mdp module a x : [-5..5]; b : bool; endmodule module o c : bool init true; y : [0..1]; endmodule")
	for _, x := range []int32{0, 1, -1, 2, 5, -5, 6, math.MaxInt32, math.MinInt32} {
		for _, b := range []int32{0, 1, 2, -1, 256, 65536, 1 << 30, math.MaxInt32, math.MinInt32} {
			want := []value.Bind{
				{Name: "x", V: value.Number(int64(x))}, {Name: "b", V: value.Truth(b != 0)},
				{Name: "c", V: value.Truth(x != 0)}, {Name: "y", V: value.Number(int64(b))},
			}
			if l, err := Bind(f, state(x, b, x, b)); err != nil || !slices.Equal(l, want) {
				t.Errorf("Bind of %d, %d: %+v, %v; want %+v", x, b, l, err, want)
			}
		}
	}
	for _, in := range [][]int32{nil, {}} {
		if l, err := Bind(check.Flat{}, in); len(l) != 0 || err != nil {
			t.Errorf("Bind without variables: %v, %v", l, err)
		}
	}
}

// variables: a model of so many, and labels and rules whatever is wrong with these.
func variables(t *testing.T, many int) check.Flat {
	s := "mdp module a "
	for i := range many {
		s += "x" + strconv.Itoa(i) + []string{" : [0..1]; ", " : bool; "}[i%2]
	}
	s += `[] 9223372036854775807 + 1 > 0 -> true; endmodule label "a" = true; label "b" = 9223372036854775807 + 1 > 0;`
	return laid(t, s)
}

// P12.1, P12.2: Bind's error is that of all calls, ahead of any other one.
func TestStatesOfAnotherLength(t *testing.T) {
	for _, many := range []int{0, 1, 2, 3, 15, 16} {
		f := variables(t, many)
		for _, length := range []int{0, 1, 2, 3, 4, 14, 15, 16, 17, 18, 64, 4096} {
			in := make([]int32, length)
			_, err := Bind(f, in)
			if length == many {
				if err != nil {
					t.Errorf("Bind of %d: %v", many, err)
				}
				continue
			}
			if l, err := Bind(f, in); len(l) != 0 || err != api.ErrArg {
				t.Errorf("Bind of %d numbers for %d variables: %v, %v", length, many, l, err)
			}
			if l, err := Holds(f, in); len(l) != 0 || err != api.ErrArg {
				t.Errorf("Holds of %d numbers for %d variables: %v, %v", length, many, l, err)
			}
			fails(t, f, in, api.ErrArg)
		}
	}
}

// P12.1
func TestHolds(t *testing.T) {
	f := laid(t, `mdp label "always" = true; label "big" = x > 1; label "never" = x < x; label "b" = b; label "both" = b & x > 1;
		module a x : [0..3]; b : bool; endmodule label "not" = !b; label "odd" = x = 1 | x = 3; label "sum" = x + c > 2; formula c = b ? 1 : 0;`)
	for _, c := range []struct{ in, want []int32 }{
		{state(0, 0), state(0, 5)}, {state(1, 0), state(0, 5, 6)}, {state(2, 0), state(0, 1, 5)}, {state(3, 0), state(0, 1, 5, 6, 7)},
		{state(0, 1), state(0, 3)}, {state(1, 1), state(0, 3, 6)}, {state(2, 1), state(0, 1, 3, 4, 7)}, {state(3, -7), state(0, 1, 3, 4, 6, 7)},
		{state(math.MinInt32, math.MinInt32), state(0, 3)}, {state(math.MaxInt32, 0), state(0, 1, 5, 7)},
	} {
		var want []int
		for _, i := range c.want {
			want = append(want, int(i))
		}
		if l, err := Holds(f, c.in); err != nil || !slices.Equal(l, want) {
			t.Errorf("Holds of %v: %v, %v; want %v", c.in, l, err, want)
		}
	}
	if l, err := Holds(laid(t, "mdp module a x : [0..1]; [] 9223372036854775807 + x > 0 -> (x' = 7); endmodule"), state(1)); len(l) != 0 || err != nil {
		t.Errorf("Holds without labels: %v, %v", l, err)
	}
}

// P12.1: the first error of all labels, whatever holds.
func TestHoldsErrors(t *testing.T) {
	for _, s := range []string{
		`label "a" = ^x + 9223372036854775807 > 0;`,
		`label "a" = true; label "b" = 0 < ^x + 9223372036854775807; label "c" = x * 9223372036854775807 * 4 > 0; label "d" = true;`,
		`label "a" = x = 1; label "b" = x = 1 | x + 9223372036854775807 > 0; label "c" = x = 1 & ^x * 4611686018427387904 * 2 > 0;`,
		`label "a" = false; label "b" = ^-9223372036854775807 - x - 1 < 0 & x + 9223372036854775807 > 0;`,
	} {
		text, pos := marked(t, "mdp module a x : [0..1]; endmodule "+s)
		f := laid(t, text)
		if l, err := Holds(f, state(1)); len(l) != 0 || !isAt(err, api.ErrOver, pos) {
			t.Errorf("Holds(%s): %v, %v; want it at %d", text, l, err, pos)
		}
		if _, err := Holds(f, state(0)); err != nil {
			t.Errorf("Holds(%s) of 0: %v", text, err)
		}
	}
}

// whole is a model in which actions come in another order than modules have them.
const whole = `mdp
	module a
		x : [0..9];
		[late] x > 8 -> true;
		[] x < 9 -> (x' = x + 1);
		[go] x > 0 -> (x' = 0);
		[own] true -> 3 : (x' = 9) + 4 : true;
		[] x = 2 -> 5 : true;
		[go] x > 1 -> 2 : (x' = 1) + 3 : (x' = 2);
	endmodule
	module nothing
	endmodule
	module b
		y : [0..9];
		[early] true -> true;
		[go] y = 0 -> (y' = 1) + 7 : (y' = 2);
		[] y > 0 -> (y' = 0);
		[go] y < 5 -> (y' = y + 1);
		[go] y > 8 -> true;
		[late] y = 3 -> (y' = 4);
	endmodule
	module c
		z : bool;
		[] z & x = 2 -> (z' = false);
		[late] true -> (z' = true);
		[go] true -> (z' = !z);
		[early] z -> 6 : (z' = false);
	endmodule`

// P12.2
func TestWaysInOrder(t *testing.T) {
	comes(t, whole, state(0, 0, 0), "[] 1: 1 0 0", "[own] 3: 9 0 0 + 4: 0 0 0")
	comes(t, whole, state(1, 5, 0), "[] 1: 2 5 0", "[] 1: 1 0 0", "[own] 3: 9 5 0 + 4: 1 5 0")
	comes(t, whole, state(1, 5, 1), "[] 1: 2 5 1", "[] 1: 1 0 1", "[own] 3: 9 5 1 + 4: 1 5 1", "[early] 6: 1 5 0")
	comes(t, whole, state(2, 0, 1),
		"[] 1: 3 0 1", "[] 5: 2 0 1", "[] 1: 2 0 0",
		"[go] 1: 0 1 0 + 7: 0 2 0", "[go] 1: 0 1 0",
		"[go] 2: 1 1 0 + 14: 1 2 0 + 3: 2 1 0 + 21: 2 2 0", "[go] 2: 1 1 0 + 3: 2 1 0",
		"[own] 3: 9 0 1 + 4: 2 0 1",
		"[early] 6: 2 0 0")
	comes(t, whole, state(9, 3, 0),
		"[] 1: 9 0 0",
		"[late] 1: 9 4 1",
		"[go] 1: 0 4 1", "[go] 2: 1 4 1 + 3: 2 4 1",
		"[own] 7: 9 3 0")
	comes(t, whole, state(5, 9, 0), "[] 1: 6 9 0", "[] 1: 5 0 0", "[go] 1: 0 9 1", "[go] 2: 1 9 1 + 3: 2 9 1", "[own] 3: 9 9 0 + 4: 5 9 0")
}

// P12.2
func TestNoWays(t *testing.T) {
	comes(t, "mdp", nil)
	comes(t, "mdp", state())
	comes(t, "mdp module a endmodule", nil)
	comes(t, "mdp module a x : [0..1]; endmodule", state(0))
	comes(t, "mdp module a [] false -> true; [go] false -> true; endmodule", nil)
	comes(t, "mdp module a [] true -> true; endmodule", nil, "[] 1:")
	comes(t, "mdp module a [go] true -> 3 : true + 4 : true; endmodule module b [go] true -> 5 : true; endmodule", nil, "[go] 35:")
}

// P12.2: a part's rules are those of one module, wherever they stand in it, and a
// module with none is no part.
func TestParts(t *testing.T) {
	const s = `mdp module a x : [0..9]; [go] true -> (x' = 1); [] true -> (x' = 2); [stop] true -> (x' = 3); [go] true -> (x' = 4); endmodule
		module b y : [0..9]; [stop] x > 5 -> (y' = 1); endmodule
		module c z : [0..9]; [go] true -> (z' = 1); [other] true -> (z' = 2); [go] x > 5 -> (z' = 3); [go] true -> (z' = 4); endmodule`
	comes(t, s, state(0, 0, 0), "[] 1: 2 0 0", "[go] 1: 1 0 1", "[go] 1: 1 0 4", "[go] 1: 4 0 1", "[go] 1: 4 0 4", "[other] 1: 0 0 2")
	comes(t, s, state(6, 0, 0), "[] 1: 2 0 0", "[go] 1: 1 0 1", "[go] 1: 1 0 3", "[go] 1: 1 0 4", "[go] 1: 4 0 1", "[go] 1: 4 0 3", "[go] 1: 4 0 4",
		"[stop] 1: 3 1 0", "[other] 1: 6 0 2")
}

// P12.2: the last digit of three changes fastest, of ways and of outcomes.
func TestThreeDigits(t *testing.T) {
	comes(t, `mdp module a x : [0..9]; [go] true -> (x' = 1); [go] true -> (x' = 2); endmodule
		module b y : [0..9]; [go] true -> (y' = 1); [go] true -> (y' = 2); [go] true -> (y' = 3); endmodule
		module c z : [0..9]; [go] true -> (z' = 1); [go] true -> (z' = 2); endmodule`, state(0, 0, 0),
		"[go] 1: 1 1 1", "[go] 1: 1 1 2", "[go] 1: 1 2 1", "[go] 1: 1 2 2", "[go] 1: 1 3 1", "[go] 1: 1 3 2",
		"[go] 1: 2 1 1", "[go] 1: 2 1 2", "[go] 1: 2 2 1", "[go] 1: 2 2 2", "[go] 1: 2 3 1", "[go] 1: 2 3 2")
	comes(t, `mdp module a x : [0..9]; [go] true -> 2 : (x' = 1) + 3 : (x' = 2); endmodule
		module b y : [0..9]; [go] true -> 5 : (y' = 1) + 7 : (y' = 2) + 11 : true; endmodule
		module c z : [0..9]; [go] true -> 13 : true + 17 : (z' = 2); endmodule`, state(0, 0, 0),
		"[go] 130: 1 1 0 + 170: 1 1 2 + 182: 1 2 0 + 238: 1 2 2 + 286: 1 0 0 + 374: 1 0 2"+
			" + 195: 2 1 0 + 255: 2 1 2 + 273: 2 2 0 + 357: 2 2 2 + 429: 2 0 0 + 561: 2 0 2")
}

// P12.2: settings are reckoned in the state as it is.
func TestSettings(t *testing.T) {
	comes(t, "mdp module a x : [0..9]; y : [0..9]; [] true -> (x' = y) & (y' = x) + (y' = x) & (x' = y); endmodule", state(3, 5), "[] 2: 5 3")
	comes(t, `mdp module a x : [0..9]; [go] true -> (x' = y) + 2 : (x' = x + y); endmodule
		module b y : [0..9]; [go] true -> (y' = x); endmodule`, state(3, 5), "[go] 1: 5 3 + 2: 8 3")
	comes(t, "mdp module a b : bool; c : bool; x : [0..1]; [] true -> (b' = c) & (c' = b) + (b' = x = 0) + (c' = !c & b) & (x' = b ? 1 : 0); endmodule", state(1, 0, 0),
		"[] 1: 0 1 0 + 1: 1 0 0 + 1: 1 1 1")
	// A truth that isn't set stays what number it is, and one that is set is 0 or 1.
	comes(t, "mdp module a b : bool; c : bool; [] b & c -> true + (b' = c); endmodule", state(-7, 9), "[] 1: -7 9 + 1: 1 9")
	// A number that isn't set stays, wherever it is.
	comes(t, "mdp module a x : [0..1]; y : [0..1]; [] x > 1 -> true + (y' = 1); endmodule", state(7, -7), "[] 1: 7 -7 + 1: 7 1")
}

// over is too great wherever it is reckoned with an x that isn't 0.
const over = "x * 9223372036854775807 * 2"

// P12.2: the first error of all guards.
func TestGuardsErrors(t *testing.T) {
	const b, a = "mdp module a x : [0..9]; ", " endmodule"
	refuses(t, b+"[] ^x + 9223372036854775807 > 0 -> true;"+a, state(1), api.ErrOver)
	refuses(t, b+"[] true -> (x' = 9 + 1); [] ^x + 9223372036854775807 > 0 -> true; [] "+over+" > 0 -> true;"+a, state(1), api.ErrOver)
	refuses(t, b+"[go] true -> (x' = 9 + 1); [] true -> true; [no] 0 < ^x + 9223372036854775807 -> true; [] "+over+" > 0 -> true;"+a, state(1), api.ErrOver)
	refuses(t, b+"[go] x + 9223372036854775806 > 0 -> true; [go] ^x + 9223372036854775807 > 0 -> true;"+a, state(1), api.ErrOver)
	// Of actions that can't be taken, too.
	refuses(t, b+"[go] false -> true; [go] x = 1 & ^x + 9223372036854775807 > 0 -> true;"+a, state(1), api.ErrOver)
	refuses(t, b+"[go] false -> true; endmodule module b [go] ^x + 9223372036854775807 > 0 -> true;"+a, state(1), api.ErrOver)
	// In the order of rules, not of ways.
	refuses(t, b+"[go] ^x + 9223372036854775807 > 0 -> true; [] "+over+" > 0 -> true;"+a, state(1), api.ErrOver)
	// What isn't asked is no error.
	comes(t, b+"[] x = 1 | "+over+" > 0 -> (x' = 5); [] x = 0 & "+over+" > 0 -> (x' = 6);"+a, state(1), "[] 1: 5")
}

// rules: of an action, so many with a guard and branches.
func rules(many int, action, guard, branches string) string {
	return strings.Repeat("["+action+"]"+guard+"->"+branches+";", many)
}

// modules: with so many rules of an action.
func modules(action string, many ...int) string {
	s := ""
	for i, n := range many {
		s += "module " + action + strconv.Itoa(i) + " " + rules(n, action, "true", "true") + "endmodule "
	}
	return s
}

// P12.2: 4096 ways may be.
func TestManyWays(t *testing.T) {
	for _, s := range []string{
		"module a " + rules(4096, "", "true", "true") + "endmodule",
		"module a " + rules(4096, "", "true", "true") + rules(9, "", "false", "true") + "endmodule",
		modules("g", slices.Repeat([]int{2}, 12)...), modules("g", 64, 64), modules("g", 1, 4096), modules("g", 4096, 1), modules("g", 4, 1, 1024),
		"module a " + rules(4095, "", "true", "true") + "[h] true -> true; endmodule",
		"module a " + rules(4000, "", "true", "true") + "endmodule " + modules("g", 2, 3, 4, 4),
		modules("g", 64, 32) + modules("h", 32, 64),
		// Ways that aren't don't count.
		modules("g", 64, 64) + modules("h", 1000, 0, 1000) + "module b " + rules(9, "h", "false", "true") + "endmodule",
		"module b " + rules(1, "h", "1 > 2", "true") + "endmodule " + modules("h", slices.Repeat([]int{2}, 70)...) + modules("g", 4, 1024),
		modules("h", slices.Repeat([]int{2}, 70)...) + "module b " + rules(1, "h", "1 > 2", "true") + "endmodule " + modules("g", 4, 1024),
	} {
		l, err := Ways(laid(t, "mdp "+s), nil)
		if err != nil || len(l) != 4096 {
			t.Errorf("Ways(%s): %d, %v", short(s), len(l), err)
		}
		for _, w := range l {
			if len(w.Next) != 1 || w.Next[0].Weight != 1 {
				t.Fatalf("Ways(%s): %s", short(s), tell(w))
			}
		}
	}
}

// P12.2: more than 4096 ways may not be.
func TestTooManyWays(t *testing.T) {
	for _, s := range []string{
		"module a " + rules(4097, "", "true", "true") + "endmodule",
		"module a " + rules(5000, "", "true", "true") + "endmodule",
		modules("g", 17, 241), modules("g", 241, 17), modules("g", 4097), modules("g", 1, 4097, 1), modules("g", 64, 65),
		modules("g", slices.Repeat([]int{2}, 13)...),
		// 2 to 31, 32, 62, 63, 64, 65 and 128.
		modules("g", slices.Repeat([]int{2}, 31)...), modules("g", slices.Repeat([]int{2}, 32)...),
		modules("g", slices.Repeat([]int{2}, 62)...), modules("g", slices.Repeat([]int{2}, 63)...),
		modules("g", slices.Repeat([]int{2}, 64)...), modules("g", slices.Repeat([]int{2}, 65)...), modules("g", slices.Repeat([]int{4}, 64)...),
		modules("g", slices.Repeat([]int{16}, 16)...), modules("g", slices.Repeat([]int{3}, 41)...), modules("g", slices.Repeat([]int{2}, 500)...),
		"module a " + rules(4096, "", "true", "true") + "[h] true -> true; endmodule",
		"module a " + rules(1, "", "true", "true") + "endmodule " + modules("g", 64, 64),
		modules("g", 64, 64) + modules("h", 1), modules("g", 64, 32) + modules("h", 32, 64) + modules("i", 1, 1, 1),
		modules("g", slices.Repeat([]int{2}, 64)...) + modules("h", slices.Repeat([]int{2}, 64)...),
	} {
		fails(t, laid(t, "mdp "+s), nil, api.ErrLong)
	}
}

// branches: a rule of each of some modules, with so many branches.
func branches(action string, many ...int) string {
	s := ""
	for i, n := range many {
		s += "module m" + action + strconv.Itoa(i) + " [" + action + "] true -> true" + strings.Repeat("+true", n-1) + "; endmodule "
	}
	return s
}

// P12.2: 4096 outcomes of a way may be, though they come to one state.
func TestManyOutcomes(t *testing.T) {
	for _, s := range []string{
		branches("g", 4096), branches("g", slices.Repeat([]int{2}, 12)...), branches("g", 64, 64), branches("g", 1, 4096), branches("g", 4096, 1, 1), branches("g", 4, 1, 1024),
		branches("", 4096),
	} {
		f := laid(t, "mdp "+s)
		if l, err := Ways(f, nil); err != nil || len(l) != 1 || len(l[0].Next) != 1 || l[0].Next[0].Weight != 4096 {
			t.Errorf("Ways(%s): %s, %v", short(s), short(tellAll(l)), err)
		}
	}
	// Of two ways, each.
	f := laid(t, "mdp "+branches("g", 4096)+branches("h", 64, 64))
	if l, err := Ways(f, nil); err != nil || tellAll(l) != "[g] 4096:\n[h] 4096:" {
		t.Errorf("Ways of 4096 outcomes each: %s, %v", short(tellAll(l)), err)
	}
	// All of them apart.
	s := "mdp module a x : [0..63]; [go] true -> (x' = 0)"
	for i := 1; i < 64; i++ {
		s += "+" + strconv.Itoa(i+1) + ":(x'=" + strconv.Itoa(i) + ")"
	}
	s += "; endmodule "
	s += strings.ReplaceAll(strings.ReplaceAll(s[len("mdp "):], "x", "y"), "module a", "module b")
	l, err := Ways(laid(t, s), state(7, 7))
	if err != nil || len(l) != 1 || len(l[0].Next) != 4096 {
		t.Fatalf("Ways of 4096 states: %d, %v", len(l), err)
	}
	for i, n := range l[0].Next {
		x, y := i/64, i%64
		if !slices.Equal(n.State, state(int32(x), int32(y))) || n.Weight != int64((x+1)*(y+1)) {
			t.Fatalf("the outcome %d is %v with %d", i, n.State, n.Weight)
		}
	}
}

// P12.2: more than 4096 outcomes of a way may not be, though they come to one state.
func TestTooManyOutcomes(t *testing.T) {
	wide := branches("", 4097)
	for _, s := range []string{
		wide, branches("g", 4097), branches("g", 17, 241), branches("g", 241, 17), branches("g", 1, 4097), branches("g", 4097, 1), branches("g", 64, 65),
		branches("g", slices.Repeat([]int{2}, 13)...), branches("g", slices.Repeat([]int{2}, 32)...), branches("g", slices.Repeat([]int{2}, 63)...),
		branches("g", slices.Repeat([]int{2}, 64)...), branches("g", slices.Repeat([]int{16}, 16)...), branches("g", slices.Repeat([]int{2}, 500)...),
		branches("g", 4096) + branches("h", 4097), branches("h", 4097) + branches("g", 4096),
		// Of one way of many, wherever it is.
		"module a " + rules(5, "g", "true", "true+true") + rules(1, "g", "true", "true+true+true") + "endmodule module b [g] true -> true" + strings.Repeat("+true", 1365) + "; endmodule",
		"module a " + rules(1, "g", "true", "true+true+true") + rules(5, "g", "true", "true+true") + "endmodule module b " + rules(2, "g", "true", "true") + "[g] true -> true" + strings.Repeat("+true", 1365) + "; endmodule",
	} {
		fails(t, laid(t, "mdp "+s), nil, api.ErrLong)
	}
	// A way that isn't has no outcomes.
	comes(t, "mdp "+branches("g", 64, 65)+"module x [g] false -> true; endmodule", nil)
	comes(t, "mdp module x [g] false -> true; endmodule "+branches("g", 64, 65)+branches("h", 2), nil, "[h] 2:")
	comes(t, "mdp "+strings.ReplaceAll(wide, "true ->", "false ->"), nil)
	comes(t, "mdp module a [g] true -> true; [g] false -> true"+strings.Repeat("+true", 4096)+"; endmodule", nil, "[g] 1:")
}

// P12.2: a guard's error comes ahead of ErrLong, this one ahead of all that comes of
// ways.
func TestErrLongAmongOthers(t *testing.T) {
	const b, a = "mdp module a x : [0..1]; ", " endmodule "
	for _, long := range []string{modules("g", 17, 241), branches("g", 17, 241)} {
		refuses(t, b+"[g] true -> true; [] ^x + 9223372036854775807 > 0 -> true;"+a+long, state(1), api.ErrOver)
		refuses(t, b+a+long+"module z [] ^x + 9223372036854775807 > 0 -> true;"+a, state(1), api.ErrOver)
		fails(t, laid(t, b+"[] true -> (x' = 2);"+a+long), state(1), api.ErrLong)
		fails(t, laid(t, b+"[] true -> 9223372036854775807 : true + true;"+a+long), state(1), api.ErrLong)
		fails(t, laid(t, b+"[] true -> (x' = "+over+");"+a+long), state(1), api.ErrLong)
		fails(t, laid(t, b+a+long+"module y [f] true -> 9223372036854775807 : true; endmodule module z [f] true -> 2 : true;"+a), state(1), api.ErrLong)
	}
}

// weighs: a model in which each of some modules has a rule with an action, whose
// branch has a weight.
func weighs(weights ...string) string {
	s := "mdp "
	for i, w := range weights {
		s += "module m" + strconv.Itoa(i) + " [go] true -> " + w + " : true; endmodule "
	}
	return s
}

// P12.2: products of weights.
func TestProducts(t *testing.T) {
	const top = "9223372036854775807"
	comes(t, weighs("1", "1", "1"), nil, "[go] 1:")
	comes(t, weighs("2", "3", "5"), nil, "[go] 30:")
	comes(t, weighs("1", top, "1"), nil, "[go] "+top+":")
	comes(t, weighs("49", "73", "127", "337", "92737", "649657"), nil, "[go] "+top+":")
	comes(t, weighs("2", "4611686018427387903"), nil, "[go] 9223372036854775806:")
	comes(t, weighs("5", "1844674407370955161"), nil, "[go] 9223372036854775805:")
	comes(t, weighs("8", "1152921504606846975"), nil, "[go] 9223372036854775800:")
	comes(t, weighs("3037000499", "3037000499"), nil, "[go] 9223372030926249001:")
	comes(t, weighs(slices.Repeat([]string{"2"}, 62)...), nil, "[go] 4611686018427387904:")
	comes(t, weighs(slices.Repeat([]string{"3"}, 39)...), nil, "[go] 4052555153018976267:")
	for _, weights := range [][]string{
		{"2", top}, {top, "2"}, {top, top}, {"2", "4611686018427387904"}, {"4611686018427387904", "2"}, {"3037000500", "3037000500"}, {"4294967296", "4294967296"},
		{"4294967296", "2147483648"}, {"3", "3074457345618258603"}, {"1", "2", "1", top, "1"}, {top, top, top},
		slices.Repeat([]string{"2"}, 63), slices.Repeat([]string{"2"}, 64), slices.Repeat([]string{"2"}, 65), slices.Repeat([]string{"3"}, 40),
		slices.Repeat([]string{"4294967296"}, 4), {"49", "73", "127", "337", "92737", "649658"},
	} {
		fails(t, laid(t, weighs(weights...)), nil, api.ErrOver)
	}
	// Of one outcome, wherever it is.
	for _, s := range []string{"2 : true + true + true", "true + 2 : true + true", "true + true + 2 : true"} {
		fails(t, laid(t, "mdp module a [go] true -> "+s+"; endmodule module b [go] true -> 4611686018427387904 : true; endmodule"), nil, api.ErrOver)
	}
	// Of no way.
	comes(t, weighs("2", top)+"module z [go] false -> true; endmodule", nil)
}

// P12.2: outcomes with one state are one, where the first one stands.
func TestSums(t *testing.T) {
	comes(t, "mdp module a x : [0..9]; [] true -> 2 : (x' = 3) + 3 : true + 5 : (x' = 3) + 7 : (x' = x) + 11 : (x' = 4) + 13 : (x' = x + 2); endmodule", state(1),
		"[] 20: 3 + 10: 1 + 11: 4")
	comes(t, `mdp module a x : [0..9]; [go] true -> (x' = 1) + 2 : true; endmodule
		module b y : [0..9]; [go] true -> 3 : true + 4 : (y' = x) + 5 : (y' = 2); endmodule`, state(1, 2), "[go] 24: 1 2 + 12: 1 1")
	// Outcomes of two ways stay apart, and ways that are alike.
	comes(t, "mdp module a x : [0..9]; [] true -> 2 : true; [] true -> 3 : true; [go] true -> 5 : true; [go] true -> 5 : true; endmodule", state(1),
		"[] 2: 1", "[] 3: 1", "[go] 5: 1", "[go] 5: 1")
	// States that differ in one variable by some bits alone.
	comes(t, "mdp module a x : [-2147483648..2147483647]; y : [-2147483648..2147483647]; [] true -> (x' = 256) + (x' = 65536) + (x' = 16777216) + (x' = 1) + (x' = -1)"+
		" + (x' = -2147483648) + (x' = 2147483647) + true + (y' = 256) + (y' = 1) + (y' = -1) + (x' = 1) & (y' = 1) + (x' = 256); endmodule", state(0, 0),
		"[] 2: 256 0 + 1: 65536 0 + 1: 16777216 0 + 1: 1 0 + 1: -1 0 + 1: -2147483648 0 + 1: 2147483647 0 + 1: 0 0 + 1: 0 256 + 1: 0 1 + 1: 0 -1 + 1: 1 1")
}

// P12.2: sums of weights that are too great.
func TestSumsThatAreTooGreat(t *testing.T) {
	const b, a = "mdp module a x : [0..9]; [] true -> ", "; endmodule"
	comes(t, b+"9223372036854775806 : true + (x' = x)"+a, state(0), "[] 9223372036854775807: 0")
	comes(t, b+"4611686018427387904 : true + 2 : (x' = 1) + 4611686018427387903 : true"+a, state(0), "[] 9223372036854775807: 0 + 2: 1")
	comes(t, b+"9223372036854775807 : true + 9223372036854775807 : (x' = 1)"+a, state(0), "[] 9223372036854775807: 0 + 9223372036854775807: 1")
	for _, s := range []string{
		"9223372036854775807 : true + (x' = x)", "true + 9223372036854775807 : (x' = 0)", "4611686018427387904 : true + 4611686018427387904 : true",
		"9223372036854775807 : true + 9223372036854775807 : true", "9223372036854775806 : true + (x' = 1) + true + (x' = 1) + true",
		"(x' = 1) + 9223372036854775807 : (x' = 2) + (x' = 3) + (x' = 2)",
	} {
		fails(t, laid(t, b+s+a), state(0), api.ErrOver)
	}
	fails(t, laid(t, `mdp module a x : [0..9]; [go] true -> 4294967296 : true + 4294967296 : (x' = x); endmodule
		module b [go] true -> 1073741824 : true; endmodule`), state(3), api.ErrOver)
}

// P12.2
func TestRanges(t *testing.T) {
	const b, a = "mdp module a x : [-3..5]; y : [-2147483648..2147483647]; c : bool; [] true -> ", "; endmodule"
	comes(t, b+"(x' = -3) + (x' = 5) + (x' = 0)"+a, state(1, 2, 0), "[] 1: -3 2 0 + 1: 5 2 0 + 1: 0 2 0")
	comes(t, b+"(y' = -2147483648) + (y' = 2147483647)"+a, state(1, 2, 0), "[] 1: 1 -2147483648 0 + 1: 1 2147483647 0")
	for _, s := range []string{
		"(x' = ^-4)", "(x' = ^6)", "(x' = ^x + 5)", "(x' = ^x - 5)", "(x' = ^(x + 5))", "(x' = ^((7)))", "(x' = ^c ? 5 : 6)", "true + (x' = 3) + (x' = ^6)", "(c' = true) & (x' = ^6)",
		// Within the range but for what lies beyond 32 bits.
		"(x' = ^4294967296)", "(x' = ^4294967297)", "(x' = ^-4294967296)", "(x' = ^-4294967297)", "(x' = ^8589934592 + x)", "(x' = ^9223372036854775807)", "(x' = ^-9223372036854775807 - 1)",
		"(y' = ^2147483648)", "(y' = ^-2147483649)", "(y' = ^4294967296)", "(y' = ^-4294967295)", "(y' = ^9223372036854775807)", "(y' = ^-9223372036854775807 - 1)",
	} {
		refuses(t, b+s+a, state(1, 2, 0), api.ErrRange)
	}
	// value's errors.
	for _, s := range []string{
		"(x' = ^9223372036854775807 + x)", "(x' = 5 - ^x * 4611686018427387904 * 2)", "(c' = ^x + 9223372036854775807 > 0)", "(x' = 2) & (c' = true | false) + (y' = ^-9223372036854775807 - x - 1)",
	} {
		refuses(t, b+s+a, state(1, 2, 0), api.ErrOver)
	}
	comes(t, b+"(x' = x = 1 ? 2 : "+over+") & (c' = x = 1 | "+over+" = 1)"+a, state(1, 2, 0), "[] 1: 2 2 1")
}

// P12.2: the range is the variable's own, in whatever state it is.
func TestRangesOfEachVariable(t *testing.T) {
	const s = `mdp module a x : [1..2]; y : [3..4]; [] u = 1 -> (x' = p); [] u = 2 -> (y' = p); endmodule
		module b u : [0..9]; p : [0..9]; z : [5..6]; [] u = 3 -> (z' = p); [go] u = 4 -> (z' = p); endmodule`
	for u, low := range []int32{0, 1, 3, 5, 5} {
		for p := range int32(10) {
			in := state(9, 9, int32(u), p, 9)
			l, err := Ways(laid(t, s), in)
			switch {
			case u == 0:
				if len(l) != 0 || err != nil {
					t.Errorf("%v: %v, %v", in, tellAll(l), err)
				}
			case p < low || p > low+1:
				if len(l) != 0 || !errors.Is(err, api.ErrRange) {
					t.Errorf("%v: %v, %v", in, tellAll(l), err)
				}
			default:
				next := state(9, 9, int32(u), p, 9)
				next[[]int{0, 0, 1, 4, 4}[u]] = p
				if err != nil || len(l) != 1 || !reflect.DeepEqual(l[0].Next, []Next{{next, 1}}) {
					t.Errorf("%v: %v, %v", in, tellAll(l), err)
				}
			}
		}
	}
}

// P12.2: of two errors that one is told that comes first, way by way, outcome by
// outcome, rule by rule.
func TestTheOrderOfErrors(t *testing.T) {
	const b, a = "mdp module a x : [0..9]; y : [0..9]; ", " endmodule "
	// Settings of one branch.
	refuses(t, b+"[] true -> (y' = ^10) & (x' = 10);"+a, state(1, 1), api.ErrRange)
	refuses(t, b+"[] true -> (x' = 5) & (y' = ^x + 9223372036854775807);"+a, state(1, 1), api.ErrOver)
	refuses(t, b+"[] true -> (y' = ^10) & (x' = "+over+");"+a, state(1, 1), api.ErrRange)
	refuses(t, b+"[] true -> (y' = 0 * ^(x * 9223372036854775807 * 2)) & (x' = 10);"+a, state(1, 1), api.ErrOver)
	// Branches.
	refuses(t, b+"[] true -> true + (y' = ^10) + (x' = 11);"+a, state(1, 1), api.ErrRange)
	refuses(t, b+"[] true -> true + (x' = 3) & (y' = ^10) + (x' = "+over+");"+a, state(1, 1), api.ErrRange)
	// Ways: rules without an action first, then the actions in order.
	refuses(t, b+"[go] true -> (x' = 10); [] true -> (x' = ^11);"+a, state(1, 1), api.ErrRange)
	refuses(t, b+"[] true -> (x' = 9); [go] true -> (x' = ^10); [] false -> (x' = 11); [on] true -> (x' = 12);"+a, state(1, 1), api.ErrRange)
	refuses(t, b+"[on] x > 1 -> (x' = 12); [go] true -> (x' = 10); [on] true -> (x' = ^11);"+a, state(1, 1), api.ErrRange)
	// Rules of two parts.
	const two = b + "[go] true -> %; [go] true -> %;" + a + "module c z : [0..9]; [go] true -> %; [go] true -> %; endmodule"
	fill := func(l ...string) string {
		s := two
		for _, branches := range l {
			s = strings.Replace(s, "%", branches, 1)
		}
		return s
	}
	refuses(t, fill("(x' = ^10)", "true", "(z' = 10)", "true"), state(1, 1, 1), api.ErrRange)
	refuses(t, fill("true", "(x' = 10)", "true", "(z' = ^10)"), state(1, 1, 1), api.ErrRange)
	refuses(t, fill("true", "(x' = ^10)", "true", "true"), state(1, 1, 1), api.ErrRange)
	refuses(t, fill("true + (x' = 10)", "true", "(z' = 3) + (z' = ^10)", "true"), state(1, 1, 1), api.ErrRange)
	refuses(t, fill("true + (x' = ^10)", "true", "(z' = 3) + (z' = 4)", "(z' = 10)"), state(1, 1, 1), api.ErrRange)
	// What is taken in no way is no error.
	comes(t, b+"[] false -> (x' = 10); [go] true -> (x' = 11);"+a+"module c [go] false -> true; endmodule", state(1, 1))
	comes(t, b+"[go] true -> 9223372036854775807 : true + true;"+a+"module c [go] false -> true; endmodule", state(1, 1))
}

// errsWith: of a model of two modules whose rules have the same action, these
// branches, there are no ways, for the error that has no place, or the one at the
// mark.
func errsWith(t *testing.T, first, second string, errno api.Errno) {
	t.Helper()
	s := "mdp module a x : [0..9]; [go] true -> " + first + "; endmodule module b y : [0..9]; [go] true -> " + second + "; endmodule"
	if strings.Contains(s, "^") {
		refuses(t, s, state(1, 1), errno)
		return
	}
	fails(t, laid(t, s), state(1, 1), errno)
}

// P12.2: an outcome's product comes ahead of its settings, these ahead of the sum,
// and all ahead of the next outcome.
func TestTheOrderOfWeightsErrors(t *testing.T) {
	const half = "4611686018427387904"
	errsWith(t, "2 : (x' = 10)", half+" : true", api.ErrOver)
	errsWith(t, "2 : true", half+" : (y' = "+over+")", api.ErrOver)
	errsWith(t, "2 : true", "1 : (y' = ^10) + "+half+" : true", api.ErrRange)
	errsWith(t, "2 : true", "1 : (y' = 3) + "+half+" : (y' = 10)", api.ErrOver)
	errsWith(t, "(x' = ^10) + 2 : true", "1 : true + "+half+" : true", api.ErrRange)
	errsWith(t, "(x' = 9) + 2 : (x' = ^10)", "1 : true + "+half+" : true", api.ErrRange)
	errsWith(t, "(x' = 9) + 2 : (x' = 10)", half+" : true + 1 : true", api.ErrOver)
	// Two that are one are too great together, ahead of what is wrong with a third one.
	errsWith(t, half+" : true + "+half+" : true + (x' = 10)", "true", api.ErrOver)
	errsWith(t, half+" : true + (x' = ^10) + "+half+" : true", "true", api.ErrRange)
	errsWith(t, half+" : true + "+half+" : (x' = ^10)", "true", api.ErrRange)
	errsWith(t, half+" : true + "+half+" : true", "true + (y' = ^10)", api.ErrRange)
	errsWith(t, half+" : true + "+half+" : true", "(y' = 5) + 2 : true", api.ErrOver)
	errsWith(t, half+" : true", "true + true + (y' = 10)", api.ErrOver)
	errsWith(t, half+" : true", "true + (y' = ^10) + true", api.ErrRange)
	errsWith(t, half+" : true", "true + (y' = ^x + 9223372036854775807) + 2 : true", api.ErrOver)
}

// at: an expression at a place.
func at(pos int, op string, kids ...expr.Expr) expr.Expr {
	return expr.Expr{Op: op, Name: "x", N: 7, Kids: kids, Pos: pos}
}

// odd: flat models that check.Lay makes of nothing.
func odd() []check.Flat {
	x := check.Slot{Name: "x", High: 9}
	yes, seven := at(1, "true"), at(2, "num")
	rule := func(module int, action string, guard expr.Expr, l ...check.Branch) check.Rule {
		return check.Rule{Module: module, Action: action, Guard: guard, Branches: l}
	}
	set := func(i int, e expr.Expr) check.Branch {
		return check.Branch{Weight: 1, Sets: []check.Set{{Var: i, X: e}}}
	}
	var l []check.Flat
	for _, i := range []int{-1, 1, 2, math.MaxInt, math.MinInt} {
		l = append(l, check.Flat{Modules: i, Vars: []check.Slot{x}, Rules: []check.Rule{rule(i, "", yes, set(i, seven)), rule(-i, "go", yes, set(-i, seven))}})
	}
	deep := yes
	for range 3000 {
		deep = at(3, "!", deep)
	}
	for _, e := range []expr.Expr{{}, seven, at(5, "?"), at(5, "?", yes, seven, yes), at(5, "name"), at(5, "none", yes), at(5, "neg", yes), at(5, "=", yes, seven), deep} {
		l = append(l, check.Flat{
			Vars:   []check.Slot{x, x, {Bool: true}, {Name: "x", Bool: true, Low: 5, High: -5}},
			Rules:  []check.Rule{rule(0, "", e, set(0, e), set(2, e), set(3, e)), rule(0, "go", yes, set(0, e)), rule(0, "go", yes, set(2, e), set(3, yes))},
			Labels: []check.Label{{X: e}, {Name: "x"}},
		})
	}
	return append(l,
		check.Flat{Modules: math.MaxInt}, check.Flat{Modules: math.MinInt, Labels: []check.Label{{}}},
		check.Flat{Vars: make([]check.Slot, 5000), Rules: []check.Rule{rule(1, "", yes, set(4999, seven), check.Branch{}, set(0, at(1, "false")))}},
		check.Flat{Rules: make([]check.Rule, 5000)},
		// Rules without branches, and modules that come again.
		check.Flat{Rules: slices.Repeat([]check.Rule{rule(1, "go", yes), rule(0, "go", yes, check.Branch{Weight: 1}), rule(0, "on", yes)}, 9)},
		check.Flat{Rules: slices.Repeat([]check.Rule{rule(1, "go", yes), rule(0, "go", yes, check.Branch{}, check.Branch{})}, 500)},
		// Weights at their ends.
		check.Flat{Vars: []check.Slot{x}, Rules: []check.Rule{
			rule(0, "a", yes, check.Branch{Weight: math.MinInt64}, check.Branch{Weight: -1}, set(0, seven)), rule(1, "a", yes, check.Branch{Weight: -1}, check.Branch{})}},
		check.Flat{Rules: []check.Rule{rule(0, "", yes, check.Branch{Weight: math.MinInt64}, check.Branch{Weight: -1})}},
		check.Flat{Rules: []check.Rule{rule(0, "", yes, check.Branch{}, check.Branch{Weight: math.MinInt64})}},
	)
}

// P12.1, P12.2, R1, R2: of models that check.Lay didn't make whatever is told, but
// no panic, and nothing beside an error.
func TestOddModels(t *testing.T) {
	for i, f := range odd() {
		first := First(f)
		if len(first) != len(f.Vars) {
			t.Errorf("First of %d: %v", i, first)
		}
		for _, in := range [][]int32{nil, {}, first, slices.Repeat(state(1), len(f.Vars)), slices.Repeat(state(math.MinInt32), len(f.Vars)), make([]int32, len(f.Vars)+1)} {
			binds, err := Bind(f, in)
			if fits := len(in) == len(f.Vars); fits != (err == nil) || len(binds) != 0 && !fits {
				t.Errorf("Bind of %d: %v, %v", i, binds, err)
			}
			if l, err := Holds(f, in); err != nil && len(l) != 0 {
				t.Errorf("Holds of %d: %v, %v", i, l, err)
			}
			if l, err := Ways(f, in); err != nil && len(l) != 0 {
				t.Errorf("Ways of %d: %v, %v", i, l, err)
			}
		}
	}
}

// R1: models with as many modules and variables as a text may have.
func TestGreatModels(t *testing.T) {
	const many = 1750
	s := "mdp module v "
	for i := range 16 {
		s += "x" + strconv.Itoa(i) + ":[0..1];"
	}
	s += "[g]x0=0->2:true+(x15'=1);[g]x0=1->true;[]true->true;endmodule "
	f := laid(t, s+modules("g", slices.Repeat([]int{1}, many)...))
	in := make([]int32, 16)
	l, err := Ways(f, in)
	if err != nil || tellAll(l) != "[] 1:"+strings.Repeat(" 0", 16)+"\n[g] 2:"+strings.Repeat(" 0", 16)+" + 1:"+strings.Repeat(" 0", 15)+" 1" {
		t.Errorf("Ways of %d modules: %s, %v", many, short(tellAll(l)), err)
	}
	in[0] = 1
	if l, err = Ways(f, in); err != nil || len(l) != 2 || len(l[1].Next) != 1 {
		t.Errorf("Ways of %d modules: %s, %v", many, short(tellAll(l)), err)
	}
	// Many actions.
	s = "mdp module a "
	for i := range 4000 {
		s += "[" + strconv.FormatInt(int64(i)+36*36*10, 36) + "]true->true;"
	}
	if l, err = Ways(laid(t, s+"endmodule"), nil); err != nil || len(l) != 4000 || l[0].Action != "a00" || l[3999].Action != strconv.FormatInt(3999+36*36*10, 36) {
		t.Errorf("Ways of 4000 actions: %d, %v", len(l), err)
	}
}

// answers: all that the calls tell of a state.
type answers struct {
	First []int32
	Binds []value.Bind
	Holds []int
	Ways  []Way
	Errs  []error
}

// answer: of a state.
func answer(f check.Flat, in []int32) answers {
	binds, bindErr := Bind(f, in)
	holds, holdErr := Holds(f, in)
	ways, waysErr := Ways(f, in)
	return answers{First(f), binds, holds, ways, []error{bindErr, holdErr, waysErr}}
}

// spoil all numbers that are told.
func spoil(a answers) {
	for i := range a.First {
		a.First[i]--
	}
	clear(a.Binds)
	for i := range a.Holds {
		a.Holds[i]--
	}
	for _, w := range a.Ways {
		for _, n := range w.Next {
			for i := range n.State {
				n.State[i]--
			}
			// What lies behind is in nobody's list.
			clear(n.State[len(n.State):cap(n.State)])
		}
	}
	for _, w := range a.Ways {
		clear(w.Next)
	}
	clear(a.Ways)
}

// R4, R6: what is handed in stays, what is told is the caller's, and is told again.
func TestNothingIsChangedOrKept(t *testing.T) {
	s := whole + ` label "a" = x > 1; label "b" = z; label "c" = true;`
	for _, in := range [][]int32{state(2, 0, 1), state(9, 3, 0), state(1, 5, 1), state(0, 0, 0), state(10, 9, 1), state(1)} {
		f, before := laid(t, s), slices.Clone(in)
		first := answer(f, in)
		want := answer(laid(t, s), before)
		if !reflect.DeepEqual(first, want) {
			t.Errorf("of %v: %+v; again %+v", in, first, want)
		}
		spoil(answer(f, in))
		if !reflect.DeepEqual(first, want) || !reflect.DeepEqual(answer(f, in), want) {
			t.Errorf("of %v: %+v became %+v, and then %+v", in, want, first, answer(f, in))
		}
		if !slices.Equal(in, before) || !reflect.DeepEqual(f, laid(t, s)) {
			t.Errorf("%v became %v, or the model another one", before, in)
		}
		clear(in)
		for i := range f.Rules {
			clear(f.Rules[i].Branches)
		}
		clear(f.Vars)
		clear(f.Rules)
		if !reflect.DeepEqual(first, want) {
			t.Errorf("with what was handed in %+v became %+v", want, first)
		}
	}
}

// apart: do no two of the lists share memory, up to what they may grow to? Each is
// marked with a number of its own, which it has still when all are marked.
func apart[T any](lists [][]T, mark func(x *T, i int), markOf func(x T) int) bool {
	for i, l := range lists {
		lists[i] = l[:cap(l)]
		for j := range lists[i] {
			mark(&lists[i][j], i)
		}
	}
	for i, l := range lists {
		if slices.ContainsFunc(l, func(x T) bool { return markOf(x) != i }) {
			return false
		}
	}
	return true
}

// R4: no two lists of one answer share memory, nor one with what was handed in.
func TestListsOfOneAnswer(t *testing.T) {
	for _, in := range [][]int32{state(2, 0, 1), state(9, 3, 0), state(1, 5, 1)} {
		f := laid(t, whole)
		l, err := Ways(f, in)
		if err != nil {
			t.Fatal(err)
		}
		states := [][]int32{First(f), First(f), in}
		var nexts [][]Next
		for _, w := range l {
			nexts = append(nexts, w.Next)
			for _, n := range w.Next {
				states = append(states, n.State)
			}
		}
		if !apart(states, func(x *int32, i int) { *x = int32(i) }, func(x int32) int { return int(x) }) {
			t.Errorf("Ways of %v: states share memory", in)
		}
		if !apart(nexts, func(x *Next, i int) { x.Weight = int64(i) }, func(x Next) int { return int(x.Weight) }) {
			t.Errorf("Ways of %v: outcomes share memory", in)
		}
	}
}

// P12.1, P12.2: weights and ranges that no text has, but models have that are made
// by hand.
func TestWeightsThatNoTextHas(t *testing.T) {
	m, err := model.Parse("mdp module a [go] true -> 5 : true + 7 : true; endmodule module b [go] true -> 3 : true; endmodule", 8)
	if err != nil {
		t.Fatal(err)
	}
	for _, c := range []struct {
		weights [3]int64
		want    string
	}{
		{[3]int64{0, 0, 0}, "[go] 0:"}, {[3]int64{0, 2, math.MaxInt64}, ""}, {[3]int64{2, 0, 5}, "[go] 10:"}, {[3]int64{-1, 3, 2}, "[go] 4:"},
		{[3]int64{math.MinInt64, 0, 1}, "[go] -9223372036854775808:"}, {[3]int64{math.MinInt64, -1, 1}, ""}, {[3]int64{0, math.MinInt64, -1}, ""},
		{[3]int64{math.MaxInt64, math.MinInt64, 1}, "[go] -1:"}, {[3]int64{0, math.MaxInt64, 1}, "[go] 9223372036854775807:"},
	} {
		m.Modules[0].Commands[0].Branches[0].Weight = c.weights[0]
		m.Modules[0].Commands[0].Branches[1].Weight = c.weights[1]
		m.Modules[1].Commands[0].Branches[0].Weight = c.weights[2]
		f, err := check.Lay(m)
		if err != nil {
			t.Fatal(err)
		}
		if c.want == "" {
			fails(t, f, nil, api.ErrOver)
			continue
		}
		if l, err := Ways(f, nil); err != nil || tellAll(l) != c.want {
			t.Errorf("Ways with %v: %s, %v; want %s", c.weights, tellAll(l), err, c.want)
		}
	}
}
