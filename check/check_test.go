package check

import (
	"math"
	"reflect"
	"slices"
	"strconv"
	"strings"
	"testing"

	"sortilege/api"
	"sortilege/expr"
	"sortilege/fold"
	"sortilege/model"
)

// read: a model with its places.
func read(t *testing.T, s string) model.Model {
	t.Helper()
	m, err := model.Parse(s, 64)
	if err != nil {
		t.Fatalf("model.Parse(%s): %v", short(s), err)
	}
	return m
}

// laid: a text that can be laid flat, and is.
func laid(t *testing.T, s string) Flat {
	t.Helper()
	f, err := Lay(read(t, s))
	if err != nil {
		t.Fatalf("Lay(%s): %v", short(s), err)
	}
	return f
}

// layFails: a model can't be laid for this error at this place, and nothing else
// is told.
func layFails(t *testing.T, m model.Model, errno api.Errno, pos int) {
	t.Helper()
	if f, err := Lay(m); !reflect.DeepEqual(f, Flat{}) || !isAt(err, errno, pos) {
		t.Errorf("Lay(%s): %+v, %v; want %d at %d", short(model.Print(m)), f, err, errno, pos)
	}
}

// refuses: a text has this error at the mark, but folding it has none.
func refuses(t *testing.T, s string, errno api.Errno) {
	t.Helper()
	text, pos := marked(t, s)
	m := read(t, text)
	if _, err := fold.Fold(m); err != nil {
		t.Errorf("fold.Fold(%s): %v", short(text), err)
	}
	layFails(t, m, errno, pos)
}

// tell: a flat model as lines.
func tell(f Flat) string {
	l := []string{strconv.Itoa(f.Modules) + " modules"}
	for i, v := range f.Vars {
		kind := "number"
		if v.Bool {
			kind = "truth"
		}
		l = append(l, strconv.Itoa(i)+" is "+v.Name+" of "+strconv.Itoa(v.Module)+", a "+kind+" from "+
			strconv.Itoa(int(v.Low))+" to "+strconv.Itoa(int(v.High))+", first "+strconv.Itoa(int(v.Init)))
	}
	for _, d := range f.Labels {
		l = append(l, strconv.Quote(d.Name)+" is "+expr.Print(d.X))
	}
	for _, r := range f.Rules {
		l = append(l, "rule of "+strconv.Itoa(r.Module)+" ["+r.Action+"] "+expr.Print(r.Guard))
		for _, b := range r.Branches {
			s := "  " + strconv.FormatInt(b.Weight, 10)
			for _, set := range b.Sets {
				s += "; " + strconv.Itoa(set.Var) + " becomes " + expr.Print(set.X)
			}
			l = append(l, s)
		}
	}
	return strings.Join(l, "\n")
}

// lays: a text is laid so, line by line.
func lays(t *testing.T, s string, lines ...string) {
	t.Helper()
	if told := tell(laid(t, s)); told != strings.Join(lines, "\n") {
		t.Errorf("Lay(%s):\n%s\nwant\n%s", short(s), told, strings.Join(lines, "\n"))
	}
}

// varOf: of a text with a variable alone.
func varOf(t *testing.T, s string) Slot {
	t.Helper()
	f := laid(t, "mdp module m "+s+" endmodule")
	if len(f.Vars) != 1 || f.Modules != 1 {
		t.Fatalf("Lay of %q: %+v", s, f)
	}
	return f.Vars[0]
}

// P10.2
func TestTheChaptersExample(t *testing.T) {
	refuses(t, "mdp module m x : bool; endmodule module n [] true -> (^x' = true); endmodule", api.ErrOwner)
}

// whole is a model in which much stands.
const whole = `mdp
	const N = 2;
	label "top" = full | x = N;
	formula full = x + y > N * N;
	module a
		x : [-N..N] init N - 1;
		b : bool;
		[go] !full -> 3 : (x' = x < N ? x + 1 : x) & (b' = !b) + (b' = y = N) + 7 : true;
		[] true -> true;
	endmodule
	label "never" = false;
	module nothing
	endmodule
	module c
		y : [N + 1..9];
		d : bool init N > 1;
		[] b -> (y' = x) + 9223372036854775807 : (d' = b) & (y' = N);
		[go] d = b -> 2 : (d' = false);
		[back] full -> true;
	endmodule
	label "go" = d;`

// P10.2
func TestWholeModels(t *testing.T) {
	lays(t, whole, "3 modules",
		"0 is x of 0, a number from -2 to 2, first 1", "1 is b of 0, a truth from 0 to 1, first 0",
		"2 is y of 2, a number from 3 to 9, first 3", "3 is d of 2, a truth from 0 to 1, first 1",
		`"top" is x + y > 2 * 2 | x = 2`, `"never" is false`, `"go" is d`,
		"rule of 0 [go] !x + y > 2 * 2", "  3; 0 becomes x < 2 ? x + 1 : x; 1 becomes !b", "  1; 1 becomes y = 2", "  7",
		"rule of 0 [] true", "  1",
		"rule of 2 [] b", "  1; 2 becomes x", "  9223372036854775807; 3 becomes b; 2 becomes 2",
		"rule of 2 [go] d = b", "  2; 3 becomes false",
		"rule of 2 [back] x + y > 2 * 2", "  1",
	)
}

// P10.2: expressions are those that fold tells, with their places.
func TestPlacesOfWhatIsLaid(t *testing.T) {
	f := laid(t, whole)
	x, err := fold.Fold(read(t, whole))
	if err != nil {
		t.Fatal(err)
	}
	for i, d := range x.Labels {
		if !reflect.DeepEqual(f.Labels[i].X, d.X) {
			t.Errorf("label %d: %+v; want %+v", i, f.Labels[i].X, d.X)
		}
	}
	commands := slices.Concat(x.Modules[0].Commands, x.Modules[1].Commands, x.Modules[2].Commands)
	for i, c := range commands {
		if !reflect.DeepEqual(f.Rules[i].Guard, c.Guard) {
			t.Errorf("guard %d: %+v; want %+v", i, f.Rules[i].Guard, c.Guard)
		}
		for j, b := range c.Branches {
			for k, s := range b.Sets {
				if set := f.Rules[i].Branches[j].Sets[k]; !reflect.DeepEqual(set.X, s.X) {
					t.Errorf("setting %d of branch %d of rule %d: %+v; want %+v", k, j, i, set.X, s.X)
				}
			}
		}
	}
}

// P10.2
func TestNothingToLay(t *testing.T) {
	lays(t, "mdp", "0 modules")
	lays(t, "mdp const N = 1; formula f = N + true;", "0 modules")
	lays(t, "mdp module m endmodule", "1 modules")
	lays(t, `mdp label "a" = true; label "b" = 1 < 2;`, "0 modules", `"a" is true`, `"b" is 1 < 2`)
	lays(t, "mdp module m [] true -> true; endmodule", "1 modules", "rule of 0 [] true", "  1")
	for _, m := range []model.Model{{}, {Consts: []model.Def{}, Labels: []model.Def{}, Modules: []model.Module{}}} {
		if f, err := Lay(m); tell(f) != "0 modules" || err != nil {
			t.Errorf("Lay of nothing: %+v, %v", f, err)
		}
	}
}

// P10.2
func TestFoldsErrorsComeAheadOfAll(t *testing.T) {
	for _, s := range []string{
		"mdp const A = 1; const ^A = 2;", "mdp const A = ^z;", `mdp label "a" = ^z;`, "mdp module m endmodule module ^m endmodule",
		"mdp module m x : bool; [] ^z -> true; endmodule", "mdp module m x : bool; [] true -> (x' = ^z); endmodule",
		"mdp module m x : bool; ^x : [0..1]; endmodule", "mdp module m x : bool init ^y; endmodule module o y : bool; endmodule",
	} {
		text, pos := marked(t, s)
		layFails(t, read(t, text), api.ErrName, pos)
		// What is wrong for Lay alone stands behind, and ahead.
		layFails(t, read(t, text+` label "number" = 1; module wrong w : [1..0]; v : [true..0] init 7; [] 1 -> (q' = 1) & (w' = true); endmodule`), api.ErrName, pos)
		const ahead = `mdp label "number" = 1; module wrong w : [1..0]; v : [0..true] init 7; [] 1 -> (w' = true) & (q' = 1); endmodule`
		layFails(t, read(t, ahead+strings.TrimPrefix(text, "mdp")), api.ErrName, pos+len(ahead)-len("mdp"))
		layFails(t, read(t, text+" module many "+variables(17, 0)+" endmodule"), api.ErrName, pos)
	}
	for s, errno := range map[string]api.Errno{
		"mdp const A = B; const B = ^A;": api.ErrCycle, "mdp formula f = 1 + ^f;": api.ErrCycle, "mdp const A = ^true + 1;": api.ErrType,
		"mdp const A = ^9223372036854775807 + 1;": api.ErrOver, `mdp label "a" = ^1` + strings.Repeat(" + 1", 2048) + ";": api.ErrLong,
	} {
		text, pos := marked(t, s)
		layFails(t, read(t, text+` label "number" = 1; module wrong w : [1..0]; [] 1 -> (w' = true); endmodule`), errno, pos)
	}
}

// variables: so many, their names numbered from some number on.
func variables(many, from int) string {
	s := ""
	for i := range many {
		s += "v" + strconv.Itoa(from+i) + []string{" : bool; ", " : [0..3] init 2; ", " : [-1..1]; "}[i%3]
	}
	return s
}

// modules: with so many variables each.
func modules(many ...int) string {
	s, from := "mdp", 0
	for i, n := range many {
		s += " module m" + strconv.Itoa(i) + " " + variables(n, from) + "endmodule"
		from += n
	}
	return s
}

// P10.2
func TestManyVariables(t *testing.T) {
	for _, many := range [][]int{{16}, {0, 16}, {8, 8}, {15, 1}, {1, 0, 15}, {5, 5, 0, 6, 0}, slices.Repeat([]int{1}, 16)} {
		f := laid(t, modules(many...))
		if len(f.Vars) != 16 || f.Modules != len(many) {
			t.Errorf("Lay of %v variables: %+v", many, f)
		}
		of := make([]int, len(many))
		for i, v := range f.Vars {
			of[v.Module]++
			if v.Name != "v"+strconv.Itoa(i) {
				t.Errorf("Lay of %v variables: %s is the one with the number %d", many, v.Name, i)
			}
		}
		if !slices.Equal(of, many) {
			t.Errorf("Lay of %v variables: the modules have %v", many, of)
		}
	}
	for _, many := range [][]int{{17}, {16, 1}, {0, 17}, {8, 9}, {1, 16}, {18}, {16, 2}, {9, 9}, {40, 40}, {5, 5, 0, 7, 0, 3}, slices.Repeat([]int{1}, 17)} {
		// The name of the 17th is told in no other place.
		refuses(t, strings.Replace(modules(many...), "v16 :", "^v16 :", 1), api.ErrLong)
	}
	lays(t, "mdp const a = 1; const b = 2; formula c = 3; module m x : bool; endmodule", "1 modules", "0 is x of 0, a truth from 0 to 1, first 0")
}

// P10.2: an earlier variable's error comes ahead of that there are too many; this
// one ahead of all that stands behind.
func TestManyVariablesAndOtherErrors(t *testing.T) {
	broken := func(s string, variable int, becomes string) string {
		old := "v" + strconv.Itoa(variable) + " : "
		from := strings.Index(s, old)
		to := from + strings.Index(s[from:], ";")
		return s[:from] + becomes + s[to:]
	}
	text := modules(9, 10)
	for _, variable := range []int{0, 1, 8, 9, 14, 15} {
		refuses(t, broken(text, variable, "^v : [1..0]"), api.ErrRange)
		refuses(t, broken(text, variable, "v : [^true..0]"), api.ErrType)
		refuses(t, broken(text, variable, "v : [0..^false]"), api.ErrType)
		refuses(t, broken(text, variable, "v : [0..^9223372036854775807 + 1]"), api.ErrOver)
		refuses(t, broken(text, variable, "v : bool init ^1"), api.ErrType)
		refuses(t, broken(text, variable, "v : [0..1] init ^2"), api.ErrRange)
	}
	for _, s := range []string{"^v : [1..0]", "^v : [true..0]", "^v : [0..true]", "^v : [9223372036854775807 + 1..0]", "^v : bool init 1", "^v : [0..1] init 2"} {
		refuses(t, broken(text, 16, s), api.ErrLong)
	}
	for _, s := range []string{"v : [1..0]", "v : [true..0]", "v : bool init 1"} {
		for _, variable := range []int{17, 18} {
			refuses(t, strings.Replace(broken(text, variable, s), "v16 :", "^v16 :", 1), api.ErrLong)
		}
	}
	refuses(t, strings.Replace(text, "v16 :", "^v16 :", 1)+` label "a" = 1; module o [] 1 -> (q' = 1); endmodule`, api.ErrLong)
	refuses(t, `mdp label "a" = 1; module o [] 1 -> (q' = 1); endmodule`+strings.Replace(text[len("mdp"):], "v16 :", "^v16 :", 1), api.ErrLong)
}

// P10.2
func TestBounds(t *testing.T) {
	for s, right := range map[string]Slot{
		"x : [0..1];":                                     {Low: 0, High: 1, Init: 0},
		"x : [3..3];":                                     {Low: 3, High: 3, Init: 3},
		"x : [-3..-3] init -3;":                           {Low: -3, High: -3, Init: -3},
		"x : [-5..7] init -5;":                            {Low: -5, High: 7, Init: -5},
		"x : [-5..7] init 7;":                             {Low: -5, High: 7, Init: 7},
		"x : [-5..7] init 0;":                             {Low: -5, High: 7, Init: 0},
		"x : [-5..7];":                                    {Low: -5, High: 7, Init: -5},
		"x : [-2147483648..2147483647];":                  {Low: math.MinInt32, High: math.MaxInt32, Init: math.MinInt32},
		"x : [-2147483648..-2147483648];":                 {Low: math.MinInt32, High: math.MinInt32, Init: math.MinInt32},
		"x : [2147483647..2147483647];":                   {Low: math.MaxInt32, High: math.MaxInt32, Init: math.MaxInt32},
		"x : [0..2147483648 - 1] init 9;":                 {Low: 0, High: math.MaxInt32, Init: 9},
		"x : [1 + 2 * 3..-(-9)] init 2*4;":                {Low: 7, High: 9, Init: 8},
		"x : [1 < 2 ? 3 : 4..5];":                         {Low: 3, High: 5, Init: 3},
		"x : [-2147483648..2147483647] init 2147483647;":  {Low: math.MinInt32, High: math.MaxInt32, Init: math.MaxInt32},
		"x : [-2147483648..2147483647] init -2147483648;": {Low: math.MinInt32, High: math.MaxInt32, Init: math.MinInt32},
		// What value doesn't ask isn't looked at.
		"x : [true ? 0 : true + 1..1];":                 {Low: 0, High: 1, Init: 0},
		"x : [0..false & 1 ? 0 : 1];":                   {Low: 0, High: 1, Init: 0},
		"x : [0..1] init false ? true : 1;":             {Low: 0, High: 1, Init: 1},
		"x : bool;":                                     {Bool: true, High: 1, Init: 0},
		"x : bool init false;":                          {Bool: true, High: 1, Init: 0},
		"x : bool init true;":                           {Bool: true, High: 1, Init: 1},
		"x : bool init 1 = 2 | !(3 < 2);":               {Bool: true, High: 1, Init: 1},
		"x : bool init true & 2 < 1;":                   {Bool: true, High: 1, Init: 0},
		"x : bool init false & 1;":                      {Bool: true, High: 1, Init: 0},
		"x : bool init true | 9223372036854775807 + 1;": {Bool: true, High: 1, Init: 1},
	} {
		right.Name = "x"
		if v := varOf(t, s); v != right {
			t.Errorf("%s: %+v; want %+v", s, v, right)
		}
	}
	lays(t, "mdp const A = -2; const B = A * A; const t = A < B; module m x : [A..B] init B - 1; y : bool init t; z : bool init !t; endmodule", "1 modules",
		"0 is x of 0, a number from -2 to 4, first 3", "1 is y of 0, a truth from 0 to 1, first 1", "2 is z of 0, a truth from 0 to 1, first 0")
}

// P10.2
func TestBoundsThatCanNotBe(t *testing.T) {
	for s, errno := range map[string]api.Errno{
		"^x : [1..0];":                                      api.ErrRange,
		"^x : [0..-1] init 0;":                              api.ErrRange,
		"^x : [2147483647..-2147483648];":                   api.ErrRange,
		"^x : [-2147483649..0];":                            api.ErrRange,
		"^x : [0..2147483648];":                             api.ErrRange,
		"^x : [-2147483649..2147483648];":                   api.ErrRange,
		"^x : [-2147483649..-2147483649];":                  api.ErrRange,
		"^x : [2147483648..2147483648];":                    api.ErrRange,
		"^x : [2147483648..0];":                             api.ErrRange,
		"^x : [0..-2147483649];":                            api.ErrRange,
		"^x : [0..4294967296];":                             api.ErrRange,
		"^x : [4294967296..4294967297] init 4294967296;":    api.ErrRange,
		"^x : [-9223372036854775807 - 1..0];":               api.ErrRange,
		"^x : [0..9223372036854775807];":                    api.ErrRange,
		"^x : [9223372036854775807..-9223372036854775807];": api.ErrRange,
		"x : [^true..0];":                                   api.ErrType,
		"x : [0..^false];":                                  api.ErrType,
		"x : [^true..false];":                               api.ErrType,
		"x : [^1 < 2..0];":                                  api.ErrType,
		"x : [0..^(1 < 2)];":                                api.ErrType,
		"x : [0..^1 = 2 ? 1 : true];":                       api.ErrType,
		"x : [1 + ^true..0];":                               api.ErrType,
		"x : [0..!^1];":                                     api.ErrType,
		"x : [^9223372036854775807 + 1..0];":                api.ErrOver,
		"x : [0..3 * (2 + ^(9223372036854775807 + 1))];":    api.ErrOver,
		"x : [0..-^(-9223372036854775807 - 2)];":            api.ErrOver,
	} {
		refuses(t, "mdp module m "+s+" endmodule", errno)
	}
}

// P10.2
func TestFirstValuesThatCanNotBe(t *testing.T) {
	for s, errno := range map[string]api.Errno{
		"x : [2..5] init ^1;":                                      api.ErrRange,
		"x : [2..5] init ^6;":                                      api.ErrRange,
		"x : [2..5] init ^-3;":                                     api.ErrRange,
		"x : [0..0] init ^1;":                                      api.ErrRange,
		"x : [-5..-2] init ^0;":                                    api.ErrRange,
		"x : [0..1] init ^4294967296;":                             api.ErrRange,
		"x : [0..1] init ^-4294967295;":                            api.ErrRange,
		"x : [-2147483648..2147483647] init ^2147483648;":          api.ErrRange,
		"x : [-2147483648..2147483647] init ^-2147483649;":         api.ErrRange,
		"x : [-2147483648..2147483647] init ^9223372036854775807;": api.ErrRange,
		"x : [0..1] init ^true;":                                   api.ErrType,
		"x : [0..1] init ^(1 = 1);":                                api.ErrType,
		"x : bool init ^0;":                                        api.ErrType,
		"x : bool init ^1 + 1;":                                    api.ErrType,
		"x : bool init ^true ? 1 : false;":                         api.ErrType,
		"x : bool init !^1;":                                       api.ErrType,
		"x : [0..1] init 1 + ^true;":                               api.ErrType,
		"x : [0..1] init ^9223372036854775807 * 2;":                api.ErrOver,
		"x : bool init ^9223372036854775807 * 2 > 0;":              api.ErrOver,
	} {
		refuses(t, "mdp module m "+s+" endmodule", errno)
	}
}

// P10.2: of one variable Low comes first, then High, then both, then Init; of
// each its value, then its kind.
func TestVariablesWithTwoErrors(t *testing.T) {
	for s, errno := range map[string]api.Errno{
		"x : [^true..false] init true;":                       api.ErrType,
		"x : [^true..9223372036854775807 + 1];":               api.ErrType,
		"x : [^true..1 + true];":                              api.ErrType,
		"x : [^9223372036854775807 + 1..true];":               api.ErrOver,
		"x : [1 + ^true..9223372036854775807 + 1] init true;": api.ErrType,
		"x : [2147483648..^true];":                            api.ErrType,
		"x : [2147483648..^9223372036854775807 + 1];":         api.ErrOver,
		"x : [0..^true] init 9223372036854775807 + 1;":        api.ErrType,
		"^x : [1..0] init true;":                              api.ErrRange,
		"^x : [1..0] init 9223372036854775807 + 1;":           api.ErrRange,
		"^x : [0..2147483648] init -1;":                       api.ErrRange,
		"x : [0..1] init ^true; y : [1..0];":                  api.ErrType,
		"x : [0..1] init ^2; y : [true..0];":                  api.ErrRange,
		"x : bool init ^2; y : [9223372036854775807 + 1..0];": api.ErrType,
		"x : [0..^true]; y : [true..0];":                      api.ErrType,
		"y : bool; z : [0..1]; ^x : [1..0]; w : bool init 1;": api.ErrRange,
	} {
		refuses(t, "mdp module m "+s+" endmodule", errno)
		refuses(t, "mdp module o a : [0..1] init 1; endmodule module m "+s+" endmodule module p v : [true..0]; endmodule", errno)
	}
}

// P10.2: a bool has no bounds, and one without Init has none, whatever is there.
func TestWhatAVariableHasNot(t *testing.T) {
	wrong := at(5, of("+", num(1), word(true)))
	m := model.Model{Modules: []model.Module{{Vars: []model.Var{
		{Name: "b", Bool: true, Low: wrong, High: num(7), Init: wrong},
		{Name: "c", Bool: true, Low: num(9), High: num(2), Init: word(true), HasInit: true},
		{Name: "x", Low: num(2), High: num(3), Init: num(3)},
		{Name: "y", Low: num(2), High: num(3), Init: wrong},
	}}}}
	right := []Slot{
		{Name: "b", Bool: true, High: 1}, {Name: "c", Bool: true, High: 1, Init: 1},
		{Name: "x", Low: 2, High: 3, Init: 2}, {Name: "y", Low: 2, High: 3, Init: 2},
	}
	if f, err := Lay(m); err != nil || !slices.Equal(f.Vars, right) {
		t.Errorf("Lay: %+v, %v; want %+v", f.Vars, err, right)
	}
	m.Modules[0].Vars[3].HasInit = true
	layFails(t, m, api.ErrType, 0)
}

// P10.2
func TestLabels(t *testing.T) {
	const m = " module m x : [0..3]; b : bool; endmodule "
	lays(t, `mdp label "b" = b; label "a" = x + 1 > 2 ? b : x = 0; label "t" = true;`+m, "1 modules",
		"0 is x of 0, a number from 0 to 3, first 0", "1 is b of 0, a truth from 0 to 1, first 0",
		`"b" is b`, `"a" is x + 1 > 2 ? b : x = 0`, `"t" is true`)
	for _, s := range []string{
		"^1", "^x", "^-x", "^x + 1", "^(x)", "^b ? x : 1", "^f", "1 + ^b", "!^x", "b & ^x", "x = ^b", "b ? x : ^b", "b ? (b ? 1 : ^b) : b",
		"true | ^1", "false & ^x", "!^f", "1 + ^(true)", "b & ^(f * f)",
	} {
		for _, place := range []string{m + `label "a" = ` + s + ";", `label "a" = ` + s + ";" + m, `label "ok" = b; label "a" = ` + s + `; label "wrong" = 1 + b;` + m} {
			refuses(t, "mdp formula f = x + 1;"+place, api.ErrType)
		}
	}
}

// P10.2
func TestGuards(t *testing.T) {
	for _, s := range []string{
		"^1", "^x", "^y", "^-x", "^x + 1", "^(x)", "^b ? x : 1", "^f", "1 + ^b", "!^x", "c & ^x", "x = ^c", "b ? x : ^b", "true | ^1", "false & ^x",
	} {
		refuses(t, "mdp formula f = x + y; module m x : [0..1]; b : bool; [] "+s+" -> true; endmodule module n y : [0..1]; c : bool; endmodule", api.ErrType)
		refuses(t, "mdp formula f = x + y; module n y : [0..1]; c : bool; [] c -> true; endmodule module m x : [0..1]; b : bool; [a] b -> 2 : (b' = c); [b] "+s+" -> (b' = x); [] x -> true; endmodule", api.ErrType)
	}
}

// sets: a text in which a module, among others, sets that.
func sets(s string) string {
	return "mdp const N = 2; formula f = x; module before p : [0..1]; q : bool; [] q -> (p' = y) & (q' = b); endmodule " +
		"module m x : [0..3]; y : [-1..1]; b : bool; c : bool; [go] b -> " + s + "; endmodule module behind u : [0..1]; v : bool; endmodule"
}

// P10.2
func TestSettings(t *testing.T) {
	for s, right := range map[string]string{
		"true":                                  "  1",
		"4 : true + 5 : true":                   "  4\n  5",
		"(x' = x + 1)":                          "  1; 2 becomes x + 1",
		"2 : (y' = u) & (x' = p) + (b' = v)":    "  2; 3 becomes u; 2 becomes p\n  1; 4 becomes v",
		"(c' = b) & (b' = c)":                   "  1; 5 becomes b; 4 becomes c",
		"(x' = 1) + (x' = 2) + (x' = N)":        "  1; 2 becomes 1\n  1; 2 becomes 2\n  1; 2 becomes 2",
		"(x' = 1000) & (b' = f > 9)":            "  1; 2 becomes 1000; 4 becomes x > 9",
		"(c' = q) & (b' = v) & (y'=1) & (x'=y)": "  1; 5 becomes q; 4 becomes v; 3 becomes 1; 2 becomes y",
		"(x' = b ? y : u + p)":                  "  1; 2 becomes b ? y : u + p",
	} {
		told := tell(laid(t, sets(s)))
		if _, rest, _ := strings.Cut(told, "rule of 1 [go] b\n"); rest != right {
			t.Errorf("Lay of %s:\n%s\nwant at its end\n%s", s, told, right)
		}
	}
	// Set again in another command.
	lays(t, "mdp module m b : bool; [] b -> (b' = true); [] b -> (b' = false); endmodule", "1 modules", "0 is b of 0, a truth from 0 to 1, first 0",
		"rule of 0 [] b", "  1; 0 becomes true", "rule of 0 [] b", "  1; 0 becomes false")
}

// P10.2
func TestSettingsThatCanNotBe(t *testing.T) {
	for s, errno := range map[string]api.Errno{
		// No variable: nothing, a constant, a formula, a module, an action.
		"(^z' = 1)":                   api.ErrName,
		"(^N' = 1)":                   api.ErrName,
		"(^f' = 1)":                   api.ErrName,
		"(^m' = 1)":                   api.ErrName,
		"(^go' = true)":               api.ErrName,
		"(x' = 1) & (^X' = 1)":        api.ErrName,
		"(x' = 1) + 2 : (^z' = 1)":    api.ErrName,
		"true + (b' = c) & (^z' = 1)": api.ErrName,
		// Set ahead of it.
		"(x' = 1) & (^x' = 1)":                                  api.ErrName,
		"(b' = c) & (x' = 1) & (^b' = c)":                       api.ErrName,
		"(b' = c) & (x' = 1) & (^x' = 2) & (b' = c)":            api.ErrName,
		"(x' = 1) + (x' = 1) & (b' = c) & (^x' = 1)":            api.ErrName,
		"(x' = 1) & (y' = 1) + (y' = 1) & (^y' = 1)":            api.ErrName,
		"(x' = 1) & (^x' = 2) & (x' = 3)":                       api.ErrName,
		"(x' = 1) & (y' = 1) & (b' = b) & (c' = c) & (^c' = c)": api.ErrName,
		// Another module's, ahead of it or behind.
		"(^p' = 0)":                       api.ErrOwner,
		"(^u' = 0)":                       api.ErrOwner,
		"(^q' = true)":                    api.ErrOwner,
		"(x' = 1) & (^v' = b)":            api.ErrOwner,
		"(x' = 1) + 3 : true + (^p' = 0)": api.ErrOwner,
		// Of the other kind.
		"(x' = ^b)":                       api.ErrType,
		"(x' = ^(true))":                  api.ErrType,
		"(b' = ^1)":                       api.ErrType,
		"(b' = ^x + 1)":                   api.ErrType,
		"(b' = ^N)":                       api.ErrType,
		"(b' = ^f)":                       api.ErrType,
		"(c' = b) & (y' = ^x < y)":        api.ErrType,
		"(x' = ^b ? b : c)":               api.ErrType,
		"(b' = ^b ? x : y)":               api.ErrType,
		"(x' = 1) + (b' = b) & (c' = ^p)": api.ErrType,
		// With an error of their own.
		"(x' = 1 + ^b)":               api.ErrType,
		"(b' = !^x)":                  api.ErrType,
		"(x' = b ? 1 : ^c)":           api.ErrType,
		"(b' = true | ^x)":            api.ErrType,
		"(x' = 1) & (y' = -^(x = 1))": api.ErrType,
	} {
		refuses(t, sets(s), errno)
	}
}

// P10.2: setting by setting; of each its name, its module, its expression's
// error, its kind.
func TestSettingsWithTwoErrors(t *testing.T) {
	for s, errno := range map[string]api.Errno{
		"(^z' = 1 + b)":                      api.ErrName,
		"(x' = 1) & (^x' = b)":               api.ErrName,
		"(x' = 1) & (^x' = 1 + b)":           api.ErrName,
		"(^p' = b)":                          api.ErrOwner,
		"(^p' = 1 + b)":                      api.ErrOwner,
		"(^q' = 1)":                          api.ErrOwner,
		"(^p' = 1) & (p' = 1)":               api.ErrOwner,
		"(x' = -^b)":                         api.ErrType,
		"(b' = -^b)":                         api.ErrType,
		"(b' = x + ^b)":                      api.ErrType,
		"(x' = ^b) & (x' = 1)":               api.ErrType,
		"(x' = 1 + ^b) & (z' = 1)":           api.ErrType,
		"(x' = ^b) & (p' = 1)":               api.ErrType,
		"(^p' = 1) & (z' = 1)":               api.ErrOwner,
		"(^z' = 1) & (p' = 1)":               api.ErrName,
		"(x' = 1) & (^x' = 1) & (p' = 1)":    api.ErrName,
		"(x' = 1) & (^p' = 1) & (x' = 1)":    api.ErrOwner,
		"(x' = 1) & (b' = ^1) & (x' = 1)":    api.ErrType,
		"(x' = ^b) + (z' = 1)":               api.ErrType,
		"(^z' = 1) + (x' = b)":               api.ErrName,
		"true + (^p' = 1) + (x' = b)":        api.ErrOwner,
		"(x' = 1) + (b' = ^x) & (y' = true)": api.ErrType,
	} {
		refuses(t, sets(s), errno)
	}
}

// spot is a piece of a text that may be wrong.
type spot struct {
	right, wrong string
	errno        api.Errno
	rank         int // of two that are wrong the one with the lower rank counts
}

// spots: the pieces of a text, all but the first of which can be wrong.
func spots() []spot {
	return []spot{
		{right: "mdp const N = 1; "},
		{`label "first" = true; `, `label "first" = ^1; `, api.ErrType, 40},
		{"module a x : [0..3]; ", "module a x : [^true..3]; ", api.ErrType, 1},
		{"b : bool; ", "b : bool init ^1; ", api.ErrType, 2},
		{"y : [-1..1] init 1; ", "y : [-1..1] init ^2; ", api.ErrRange, 3},
		{"[go] b ", "[go] ^x ", api.ErrType, 50},
		{"-> (x' = 1) ", "-> (^z' = 1) ", api.ErrName, 51},
		{"& (b' = true) ", "& (b' = ^1) ", api.ErrType, 52},
		{"+ (y' = 1) ", "+ (^v' = 1) ", api.ErrOwner, 53},
		{"& (x' = 2); ", "& (x' = -^b); ", api.ErrType, 54},
		{"[] true -> ", "[] ^N -> ", api.ErrType, 55},
		{"(x' = 1); endmodule ", "(x' = 1) & (^x' = 1); endmodule ", api.ErrName, 56},
		{`label "middle" = b; `, `label "middle" = !^x; `, api.ErrType, 41},
		{"module none endmodule ", "module none [] ^1 -> true; endmodule ", api.ErrType, 57},
		{"module c v : [0..9]; ", "module c ^v : [9..0]; ", api.ErrRange, 4},
		{"w : [0..2147483647]; ", "w : [0..^9223372036854775807 + 1]; ", api.ErrOver, 5},
		{"[] v = x ", "[] v = ^b ", api.ErrType, 58},
		{"-> (v' = w); endmodule ", "-> (^y' = w); endmodule ", api.ErrOwner, 59},
		{`label "last" = x = y;`, `label "last" = ^x + y;`, api.ErrType, 42},
	}
}

// P10.2: of each two errors the first one by the chapter's order, wherever it
// stands in the text.
func TestTheOrderOfErrors(t *testing.T) {
	l := spots()
	text := func(wrong ...int) string {
		s := ""
		for i, p := range l {
			switch slices.Index(wrong, i) {
			case 0:
				s += p.wrong
			case 1:
				s += strings.Replace(p.wrong, "^", "", 1)
			default:
				s += p.right
			}
		}
		return s
	}
	laid(t, text())
	for i := 1; i < len(l); i++ {
		refuses(t, text(i), l[i].errno)
		for j := 1; j < len(l); j++ {
			if l[i].rank < l[j].rank {
				refuses(t, text(i, j), l[i].errno)
			}
		}
	}
}

// byHand: a model of one module, put together by hand: with a number x and a
// truth b ahead of what is handed in.
func byHand(vars []model.Var, commands ...model.Command) model.Model {
	vars = append([]model.Var{{Name: "x", Low: num(0), High: num(1)}, {Name: "b", Bool: true}}, vars...)
	return model.Model{Modules: []model.Module{{Name: "m", Vars: vars, Commands: commands}}}
}

// command: one with a guard and a setting.
func command(guard expr.Expr, s model.Set) model.Command {
	return model.Command{Guard: guard, Branches: []model.Branch{{Sets: []model.Set{s}}}}
}

// everywhere: models in which an expression stands in each place of a number, and
// in each place of a truth.
func everywhere(e expr.Expr) (numbers, truths []model.Model) {
	labelled := byHand(nil)
	labelled.Labels = []model.Def{{Name: "a", X: e}}
	numbers = []model.Model{
		byHand([]model.Var{{Name: "y", Low: e, High: num(1)}}),
		byHand([]model.Var{{Name: "y", Low: num(0), High: e}}),
		byHand([]model.Var{{Name: "y", Low: num(0), High: num(1), Init: e, HasInit: true}}),
		byHand(nil, command(word(true), model.Set{Name: "x", X: e})),
	}
	truths = []model.Model{
		byHand([]model.Var{{Name: "y", Bool: true, Init: e, HasInit: true}}),
		labelled,
		byHand(nil, command(e, model.Set{Name: "b", X: word(true)})),
		byHand(nil, command(word(true), model.Set{Name: "b", X: e})),
	}
	return numbers, truths
}

// joined: all of both.
func joined(numbers, truths []model.Model) []model.Model {
	return slices.Concat(numbers, truths)
}

// P10.2 and R1: expressions that no text has, in each place.
func TestOddExpressions(t *testing.T) {
	for _, e := range []expr.Expr{
		of(""), of("/", num(1), num(2)), of("true", num(1)), of("num", num(1)), of("name", num(1)), of("neg"), of("!", word(true), word(true)), of("?", word(true), num(1)),
		of("+", num(1), num(2), num(3)), of("&", slices.Repeat([]expr.Expr{word(true)}, 4000)...),
	} {
		for _, pos := range []int{0, 77, math.MaxInt, math.MinInt} {
			for _, whole := range []expr.Expr{at(pos, e), at(5, of("!", at(pos, e)))} {
				for _, m := range joined(everywhere(whole)) {
					layFails(t, m, api.ErrArg, pos)
				}
			}
		}
	}
}

// P10.2 and R1: trees of some thousands of nodes, in each place.
func TestGreatExpressions(t *testing.T) {
	long := word(true)
	for range 4094 {
		long = of("!", long)
	}
	numbers, truths := everywhere(at(9, long))
	for _, m := range numbers {
		layFails(t, m, api.ErrType, 9)
	}
	for _, m := range truths {
		if _, err := Lay(m); err != nil {
			t.Errorf("Lay of a great expression: %v", err)
		}
	}
	numbers, truths = everywhere(at(9, of("!", of("!", long))))
	for _, m := range joined(numbers, truths) {
		layFails(t, m, api.ErrLong, 9)
	}
}

// P10.2: names are what their bytes are; weights and actions whatever they are.
func TestModelsThatNoTextHas(t *testing.T) {
	m := model.Model{
		Labels: []model.Def{{Name: "", X: name("")}, {Name: "\xff", X: word(true)}},
		Modules: []model.Module{{}, {Name: "\n", Vars: []model.Var{{Name: "", Bool: true, Pos: -1}, {Name: "\x00", Low: num(-4), High: num(-4)}}, Commands: []model.Command{
			{Action: "\xff ", Guard: name("")},
			{Guard: word(true), Branches: []model.Branch{
				{Weight: math.MinInt64, Sets: []model.Set{{Name: "\x00", X: num(9)}, {Name: "", X: name("")}}}, {Weight: 0}, {Weight: -1, Sets: []model.Set{}}, {Weight: math.MaxInt64},
			}},
		}}},
	}
	right := Flat{
		Modules: 2,
		Vars:    []Slot{{Name: "", Module: 1, Bool: true, High: 1}, {Name: "\x00", Module: 1, Low: -4, High: -4, Init: -4}},
		Labels:  []Label{{"", name("")}, {"\xff", word(true)}},
		Rules: []Rule{
			{Module: 1, Action: "\xff ", Guard: name("")},
			{Module: 1, Guard: word(true), Branches: []Branch{{math.MinInt64, []Set{{1, num(9)}, {0, name("")}}}, {0, nil}, {-1, nil}, {math.MaxInt64, nil}}},
		},
	}
	if f, err := Lay(m); err != nil || tell(f) != tell(right) {
		t.Errorf("Lay:\n%s, %v\nwant\n%s", tell(f), err, tell(right))
	}
	layFails(t, byHand(nil, command(word(true), model.Set{Name: "", X: num(1), Pos: math.MinInt})), api.ErrName, math.MinInt)
	layFails(t, byHand([]model.Var{{Name: "", Low: num(math.MaxInt64), High: num(math.MinInt64), Pos: -7}}), api.ErrRange, -7)
}

// P10.2: a number of rules, branches and labels that is great, and no variable at
// all.
func TestGreatModels(t *testing.T) {
	const many = 5000
	m := model.Model{}
	for i := range many {
		m.Labels = append(m.Labels, model.Def{Name: strconv.Itoa(i), X: word(true)})
		m.Modules = append(m.Modules, model.Module{Name: strconv.Itoa(i), Commands: []model.Command{{Guard: word(true), Branches: make([]model.Branch, 3)}}})
	}
	f, err := Lay(m)
	if err != nil || f.Modules != many || len(f.Labels) != many || len(f.Rules) != many || f.Rules[many-1].Module != many-1 || len(f.Vars) != 0 {
		t.Errorf("Lay of %d of each: %d, %d, %d, %v", many, f.Modules, len(f.Labels), len(f.Rules), err)
	}
}

// R4 and R6: what is handed in stays as it is, and nothing is kept of it.
func TestNothingIsChangedOrKept(t *testing.T) {
	for _, s := range []string{
		whole, "mdp const A = B;", "mdp module m x : [1..0]; endmodule", modules(9, 9), sets("(x' = 1) & (y' = 1) & (x' = 1)"), sets("(x' = 1) & (y' = b)"),
		`mdp formula f = x + 1; label "a" = f; module m x : [0..1]; endmodule`, "mdp module m x : [0..1]; [] x -> true; endmodule",
	} {
		m := read(t, s)
		f, first := Lay(m)
		if !reflect.DeepEqual(m, read(t, s)) {
			t.Fatalf("%s: it is changed to %s", short(s), short(model.Print(m)))
		}
		told := tell(f)
		spoil(reflect.ValueOf(&f).Elem())
		if !reflect.DeepEqual(m, read(t, s)) {
			t.Errorf("%s: what was told shares memory with it", short(s))
		}
		if again, err := Lay(m); tell(again) != told || !reflect.DeepEqual(err, first) || first != nil && err == first {
			t.Errorf("%s: %s, %v; again %s, %v", short(s), told, first, tell(again), err)
		}
		kept, _ := Lay(m)
		spoil(reflect.ValueOf(&m).Elem())
		if tell(kept) != told {
			t.Errorf("%s: what was told hangs on what was handed in", short(s))
		}
	}
}

// spoil: all that can be come to becomes zero, up to the ends of what the lists
// may hold.
func spoil(v reflect.Value) {
	switch v.Kind() {
	case reflect.Struct:
		for i := range v.NumField() {
			spoil(v.Field(i))
		}
	case reflect.Slice:
		for i := range v.Len() {
			spoil(v.Index(i))
		}
		v.Slice(0, v.Cap()).Clear()
	}
}

// R4: no two lists of one answer share memory.
func TestListsOfOneAnswer(t *testing.T) {
	f := laid(t, `mdp const N = 1; formula f = x + y * N; label "a" = f > 1; label "b" = f > 1; module m x : [0..3]; y : [0..3];
		[] f > 1 -> (x' = f) & (y' = f + f) + (x' = f) & (y' = f); [go] f > 1 -> (x' = f); endmodule`)
	told := tell(f)
	seen := map[uintptr]int{}
	var walk func(v reflect.Value)
	walk = func(v reflect.Value) {
		switch v.Kind() {
		case reflect.Struct:
			for i := range v.NumField() {
				walk(v.Field(i))
			}
		case reflect.Slice:
			items := v.Slice(0, v.Cap())
			for i := range items.Len() {
				seen[items.Index(i).UnsafeAddr()]++
				walk(items.Index(i))
			}
		}
	}
	walk(reflect.ValueOf(f))
	for _, n := range seen {
		if n > 1 {
			t.Fatalf("%s: an item is in %d lists", told, n)
		}
	}
}
