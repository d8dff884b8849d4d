package explore

import (
	"errors"
	"math"
	"reflect"
	"slices"
	"strconv"
	"strings"
	"testing"

	"sortilege/api"
	"sortilege/check"
	"sortilege/mdp"
	"sortilege/model"
)

// over is an expression that is a number beyond 64 bits; its error is at its first
// byte.
const over = "9223372036854775807 + 1"

// laid: a text as a flat model.
func laid(t *testing.T, s string) check.Flat {
	t.Helper()
	m, err := model.Parse(s, 64)
	if err != nil {
		t.Fatalf("model.Parse(%s): %v", short(s), err)
	}
	f, err := check.Lay(m)
	if err != nil {
		t.Fatalf("check.Lay(%s): %v", short(s), err)
	}
	return f
}

// short: a text as it may be shown.
func short(s string) string {
	if len(s) > 900 {
		return s[:900] + " and on, " + strconv.Itoa(len(s)) + " bytes"
	}
	return s
}

// tell: states as lines: the state, the names of its labels, and of each choice its
// action, and of each move the weight and the number of the state.
func tell(m mdp.MDP, states [][]int32) string {
	var l []string
	for i, choices := range m.Choices {
		var words []string
		for _, n := range states[i] {
			words = append(words, strconv.Itoa(int(n)))
		}
		for _, at := range m.Holds[i] {
			words = append(words, m.Names[at])
		}
		for _, c := range choices {
			words = append(words, "["+c.Action+"]")
			for _, v := range c.Moves {
				words = append(words, strconv.FormatInt(v.Weight, 10)+":"+strconv.Itoa(v.To))
			}
		}
		l = append(l, strings.Join(words, " "))
	}
	return strings.Join(l, "\n")
}

// isWhole: does the process begin with state 0, and has it all that these states
// need, and is it right?
func isWhole(m mdp.MDP, states [][]int32) bool {
	return m.Init == 0 && len(m.Choices) == len(states) && mdp.Check(m) == nil && len(mdp.Reach(m)) == len(states)
}

// finds: of a text's model there are just these states, by All and by Text, with
// limits of as many states, and of the most.
func finds(t *testing.T, s string, lines ...string) {
	t.Helper()
	for _, limit := range []int{len(lines), api.MaxNodes} {
		m, states, err := All(laid(t, s), limit)
		if err != nil || !isWhole(m, states) || tell(m, states) != strings.Join(lines, "\n") {
			t.Errorf("All(%s, %d):\n%s, %v; want\n%s", short(s), limit, tell(m, states), err, strings.Join(lines, "\n"))
			continue
		}
		if again, err := Text(s, api.Limits{States: limit, Depth: 64}); err != nil || !reflect.DeepEqual(again, m) {
			t.Errorf("Text(%s): %+v, %v; want %+v", short(s), again, err, m)
		}
	}
	if len(lines) > 1 {
		fails(t, s, len(lines)-1, api.ErrStates)
	}
}

// marked: a text without the ^ that stands in it, and its place; -1, if none does.
func marked(s string) (string, int) {
	before, behind, has := strings.Cut(s, "^")
	if !has {
		return s, -1
	}
	return before + behind, len(before)
}

// isError: is it this one, at this place, or without one?
func isError(err error, errno api.Errno, pos int) bool {
	if pos < 0 {
		return err == error(errno)
	}
	var at *api.At
	return errors.Is(err, errno) && errors.As(err, &at) && at.Pos == pos
}

// fails: of a text's model there are no states for this error, at the mark if there
// is one.
func fails(t *testing.T, s string, limit int, errno api.Errno) {
	t.Helper()
	text, pos := marked(s)
	m, states, err := All(laid(t, text), limit)
	if !isError(err, errno, pos) || !reflect.DeepEqual(m, mdp.MDP{}) || len(states) != 0 {
		t.Errorf("All(%s, %d): %+v, %v, %v; want %d at %d", short(text), limit, m, states, err, errno, pos)
	}
	refuses(t, s, api.Limits{States: limit, Depth: 64}, errno)
}

// refuses: a text has no process for this error, at the mark if there is one.
func refuses(t *testing.T, s string, l api.Limits, errno api.Errno) {
	t.Helper()
	text, pos := marked(s)
	if m, err := Text(text, l); !isError(err, errno, pos) || !reflect.DeepEqual(m, mdp.MDP{}) {
		t.Errorf("Text(%s, %+v): %+v, %v; want %d at %d", short(text), l, m, err, errno, pos)
	}
}

// P13.1
func TestTheChaptersExample(t *testing.T) {
	fails(t, "mdp module a endmodule", 9, api.ErrDead)
	fails(t, "mdp module a x : [0..1]; c : bool; endmodule", 9, api.ErrDead)
}

// P13.1
func TestStatesAreNumberedAsTheyAreFound(t *testing.T) {
	const b, a = "mdp module a x : [-9..9] init 0; ", " [] x = 9 -> true; endmodule"
	// State by state: all next ones of 5 ahead of those of 3.
	finds(t, b+"[] x = 0 -> (x' = 5) + (x' = 3); [] x = 3 -> (x' = 9); [] x = 5 -> (x' = 4) + (x' = -2); [] x = 4 | x = -2 -> (x' = 1); [] x = 1 -> true;"+a,
		"0 [] 1:1 1:2", "5 [] 1:3 1:4", "3 [] 1:5", "4 [] 1:6", "-2 [] 1:6", "9 [] 1:5", "1 [] 1:6")
	// Way by way, next state by next state.
	finds(t, b+"[] x = 0 -> (x' = 8) + (x' = 2); [] x = 0 -> (x' = 7) + (x' = 8) + (x' = 1); [] x != 0 & x != 9 -> (x' = 9);"+a,
		"0 [] 1:1 1:2 [] 1:3 1:1 1:4", "8 [] 1:5", "2 [] 1:5", "7 [] 1:5", "1 [] 1:5", "9 [] 1:5")
	// A line on which each state but the last one leads on, and one that goes down.
	finds(t, b+"[] x < 3 -> (x' = x + 1); [] x = 3 -> true;"+a, "0 [] 1:1", "1 [] 1:2", "2 [] 1:3", "3 [] 1:3")
	finds(t, b+"[] x > -3 -> (x' = x - 1); [] x = -3 -> true;"+a, "0 [] 1:1", "-1 [] 1:2", "-2 [] 1:3", "-3 [] 1:3")
	// Several variables, which aren't numbered by what they are.
	finds(t, "mdp module a x : [0..1] init 1; c : bool init true; [] true -> (x' = 0) + (c' = false) + (x' = 0) & (c' = false); endmodule",
		"1 1 [] 1:1 1:2 1:3", "0 1 [] 1:1 2:3", "1 0 [] 2:3 1:2", "0 0 [] 3:3")
}

// P13.1: ways without an action come first, then action by action.
func TestWays(t *testing.T) {
	finds(t, `mdp module a x : [0..9]; [up] x = 0 -> (x' = 1); [] x = 0 -> (x' = 2); [down] x = 0 -> (x' = 3); [up] x = 0 -> (x' = 4); [] x = 0 -> (x' = 5);
		[] x > 0 -> 7 : true; endmodule`,
		"0 [] 1:1 [] 1:2 [up] 1:3 [up] 1:4 [down] 1:5", "2 [] 7:1", "5 [] 7:2", "1 [] 7:3", "4 [] 7:4", "3 [] 7:5")
	// Modules that go together, and one that can't for once.
	finds(t, `mdp module a x : [0..1]; [go] true -> 2 : (x' = 1) + 3 : true; endmodule module b y : [0..1]; [go] y = 0 -> 5 : (y' = 1) + 7 : true; [] y = 1 -> (y' = 0); endmodule`,
		"0 0 [go] 10:1 14:2 15:3 21:0", "1 1 [] 1:2", "1 0 [go] 25:1 35:2", "0 1 [] 1:0")
	// Two ways that come to the same are two.
	finds(t, "mdp module a [] true -> true; [] true -> 2 : true; [b] true -> 3 : true; [a] true -> 4 : true; [b] true -> 3 : true; endmodule",
		" [] 1:0 [] 2:0 [b] 3:0 [b] 3:0 [a] 4:0"[1:])
}

// P13.1: a state has one number, however often it is come to.
func TestStatesThatAreComeToAgain(t *testing.T) {
	const b, a = "mdp module a x : [0..9]; ", " endmodule"
	// Itself, and one state twice, by one way and by two.
	finds(t, b+"[] x = 0 -> 3 : true + 4 : (x' = 1) + 5 : (x' = 0); [] x = 1 -> true;"+a, "0 [] 8:0 4:1", "1 [] 1:1")
	finds(t, b+"[] x = 0 -> 2 : (x' = 2) + 3 : (x' = 1) + 4 : (x' = 2); [] x = 0 -> (x' = 1); [] x > 0 -> (x' = 3);"+a,
		"0 [] 6:1 3:2 [] 1:2", "2 [] 1:3", "1 [] 1:3", "3 [] 1:3")
	// By several states, back to the first one, and ahead of where it waits.
	finds(t, b+"[] x = 0 -> (x' = 1) + (x' = 2); [] x = 1 | x = 2 -> (x' = 4) + (x' = 3); [] x > 2 -> (x' = 0) + (x' = 2);"+a,
		"0 [] 1:1 1:2", "1 [] 1:3 1:4", "2 [] 1:3 1:4", "4 [] 1:0 1:2", "3 [] 1:0 1:2")
	// The first state alone.
	finds(t, b+"[] x = 0 -> 6 : true; [go] x > 0 -> (x' = 9);"+a, "0 [] 6:0")
	finds(t, "mdp module a x : [3..3]; c : bool init true; [go] x = 3 & c -> true; endmodule", "3 1 [go] 1:0")
}

// P13.1: states that can't be come to, and what is wrong with them, play no part.
func TestStatesThatNobodyComesTo(t *testing.T) {
	finds(t, `mdp label "far" = x = 9; label "wrong" = x = 8 & `+over+` > 0; module a x : [0..9]; [] x < 2 -> (x' = x + 1); [] x = 2 -> (x' = 0); [] x = 7 -> (x' = 10);
		[] x = 6 & `+over+` > 0 -> true; endmodule`, "0 [] 1:1", "1 [] 1:2", "2 [] 1:0")
}

// P13.1
func TestWeights(t *testing.T) {
	const b, a = "mdp module a x : [0..2]; [] x = 0 -> ", " [] x > 0 -> 9223372036854775807 : true; endmodule"
	finds(t, b+"9223372036854775807 : (x' = 1) + 9223372036854775806 : true + 12 : (x' = 2) + 1 : true;"+a,
		"0 [] 9223372036854775807:1 9223372036854775807:0 12:2", "1 [] 9223372036854775807:1", "2 [] 9223372036854775807:2")
	fails(t, b+"9223372036854775807 : (x' = 1) + 9223372036854775806 : true + 12 : (x' = 2) + 2 : true;"+a, 3, api.ErrOver)
}

// P13.1
func TestLabels(t *testing.T) {
	const s = `mdp label "odd" = x = 1 | x = 3; label "all" = true; label "Big" = x > 1; label "none" = false; label "a_b" = x = 3;
		module a x : [0..3]; [] x < 3 -> (x' = x + 1); [] x = 3 -> (x' = 0); endmodule label "a" = x = 0;`
	m, states, err := All(laid(t, s), 4)
	if err != nil || !slices.Equal(m.Names, []string{"odd", "all", "Big", "none", "a_b", "a"}) || len(states) != 4 {
		t.Fatalf("All: %+v, %v, %v", m, states, err)
	}
	if want := [][]int{{1, 5}, {0, 1}, {1, 2}, {0, 1, 2, 4}}; !reflect.DeepEqual(m.Holds, want) {
		t.Errorf("Holds: %v; want %v", m.Holds, want)
	}
	m, _, err = All(laid(t, `mdp label "no" = x = 2; module a x : [0..2]; [] x < 2 -> (x' = x + 1); [] x = 2 -> true; endmodule`), 3)
	if err != nil || len(m.Holds) != 3 || len(m.Holds[0]) != 0 || len(m.Holds[1]) != 0 || !slices.Equal(m.Holds[2], []int{0}) {
		t.Errorf("All: %+v, %v", m, err)
	}
	m, _, err = All(laid(t, "mdp module a x : [0..2]; [] x < 2 -> (x' = x + 1); [] x = 2 -> true; endmodule"), 3)
	if err != nil || len(m.Names) != 0 || len(m.Holds) != 3 || len(slices.Concat(m.Holds...)) != 0 {
		t.Errorf("All: %+v, %v", m, err)
	}
}

// line: a model of so many states, each of which leads to the next one, and the last
// one to itself.
func line(states int) string {
	last := strconv.Itoa(states - 1)
	return "mdp module a x : [0.." + last + "]; [] x < " + last + " -> (x' = x + 1); [] x = " + last + " -> true; endmodule"
}

// P13.1
func TestLimitsOfStates(t *testing.T) {
	for _, limit := range []int{-1, 0, api.MaxNodes + 1, math.MaxInt, math.MinInt, math.MinInt32} {
		fails(t, line(1), limit, api.ErrArg)
		fails(t, line(2), limit, api.ErrArg)
		// ErrArg comes ahead of what the states tell.
		fails(t, "mdp module a endmodule", limit, api.ErrArg)
		fails(t, `mdp label "a" = `+over+` > 0; module a endmodule`, limit, api.ErrArg)
	}
	finds(t, line(1), "0 [] 1:0")
	finds(t, line(2), "0 [] 1:1", "1 [] 1:1")
	for _, limit := range []int{1, 2, 3, 100, 4095, api.MaxNodes} {
		m, states, err := All(laid(t, line(limit)), limit)
		if err != nil || !isWhole(m, states) || len(states) != limit || int(states[limit-1][0]) != limit-1 {
			t.Errorf("All of %d states: %d, %v", limit, len(states), err)
		}
		fails(t, line(limit+1), limit, api.ErrStates)
		fails(t, line(5000), limit, api.ErrStates)
	}
	// All next states of one.
	s := "mdp module a x : [0..63]; [go] true -> true"
	for i := range 63 {
		s += " + (x' = " + strconv.Itoa(63-i) + ")"
	}
	m, states, err := All(laid(t, s+"; endmodule"), 64)
	if err != nil || !isWhole(m, states) || len(states) != 64 || states[1][0] != 63 || states[63][0] != 1 {
		t.Errorf("All: %v, %v", states, err)
	}
	fails(t, s+"; endmodule", 63, api.ErrStates)
	fails(t, s+"; endmodule", 1, api.ErrStates)
}

// P13.1: a limit that is full is no error while no state is new.
func TestTheLimitMayBeReached(t *testing.T) {
	const s = "mdp module a x : [0..2]; [] true -> (x' = 1) + (x' = 2) + (x' = 0); [go] true -> (x' = 2); [] true -> (x' = 0); endmodule"
	finds(t, s, "0 [] 1:1 1:2 1:0 [] 1:0 [go] 1:2", "1 [] 1:1 1:2 1:0 [] 1:0 [go] 1:2", "2 [] 1:1 1:2 1:0 [] 1:0 [go] 1:2")
}

// P13.1
func TestDeadStates(t *testing.T) {
	for _, s := range []string{
		"mdp", `mdp label "a" = true;`, "mdp module a endmodule module b endmodule", "mdp module a x : [0..1]; [] false -> true; [go] x = 1 -> true; endmodule",
		"mdp module a [go] true -> true; endmodule module b [go] false -> true; endmodule",
		// A later state alone.
		"mdp module a x : [0..3]; [] x < 3 -> (x' = x + 1); endmodule", "mdp module a x : [0..3]; [go] x != 2 -> (x' = x < 3 ? x + 1 : 0); endmodule",
		"mdp module a x : [0..3]; [] x = 0 -> true + (x' = 3); [] x < 3 -> true; endmodule",
		"mdp module a [go] true -> true; endmodule module b y : [0..1]; [go] y = 0 -> true + (y' = 1); endmodule",
	} {
		fails(t, s, 9, api.ErrDead)
	}
	finds(t, "mdp module a x : [0..1]; endmodule module b [] x = 0 -> true; [go] false -> true; endmodule module c endmodule", "0 [] 1:0")
}

// P13.1
func TestModelsWithoutVariables(t *testing.T) {
	m, states, err := All(laid(t, `mdp label "a" = true; label "b" = false; label "c" = 1 < 2; module a [go] true -> 2 : true + 3 : true; [] true -> true; endmodule`), 1)
	want := mdp.MDP{
		Choices: [][]mdp.Choice{{{Moves: []mdp.Move{{Weight: 1}}}, {Action: "go", Moves: []mdp.Move{{Weight: 5}}}}},
		Names:   []string{"a", "b", "c"}, Holds: [][]int{{0, 2}},
	}
	if err != nil || len(states) != 1 || len(states[0]) != 0 || !reflect.DeepEqual(m, want) {
		t.Errorf("All: %+v, %v, %v", m, states, err)
	}
}

// P13.1: of one state's errors: its labels', its ways', that it is dead, and that
// there are too many states.
func TestErrorsOfOneState(t *testing.T) {
	const b = `mdp module a x : [0..9]; [go] x = 0 -> (x' = 1) + (x' = 2); [] x = 2 -> true; `
	label := func(text string) string { return ` endmodule label "fine" = x = 1; label "wrong" = ` + text + ";" }
	// State 1 is wrong, which comes behind state 0.
	for _, way := range []string{"[] x = 1 -> (x' = 10);", "[] x = 1 & " + over + " > 0 -> true;", "", "[] x = 1 -> (x' = 3) + (x' = 4);"} {
		fails(t, b+way+label("x = 1 & ^"+over+" > 0"), 3, api.ErrOver)
	}
	for _, way := range []string{"", "[] x = 1 -> (x' = 3);", "[on] x = 1 -> (x' = 5) + (x' = 4); [on] x = 1 -> true + (x' = 3);"} {
		fails(t, b+way+"[up] x = 1 -> true + (x' = ^10);"+label("true"), 3, api.ErrRange)
		fails(t, b+way+"[] x = 1 & ^"+over+" = 0 -> (x' = 3);"+label("true"), 3, api.ErrOver)
		fails(t, b+way+"[up] x = 1 -> 9223372036854775807 : true + (x' = 1);"+label("true"), 3, api.ErrOver)
	}
	fails(t, b+label("false"), 3, api.ErrDead)
	fails(t, b+"[] x = 1 -> true; [on] x = 1 -> (x' = 2) + (x' = 3) + (x' = 4);"+label("false"), 3, api.ErrStates)
	// Of two labels the first one.
	fails(t, b+label(`x = 1 & ^`+over+` = 0; label "too" = x = 1 & `+over+" = 0"), 3, api.ErrOver)
	// More ways than may be.
	many := strings.Repeat("[many] x = 1 -> true;", 65) + label("true") + "module b " + strings.Repeat("[many] true -> true;", 64) + " endmodule"
	fails(t, b+"[] x = 1 -> (x' = 4);"+many, 3, api.ErrLong)
	fails(t, b+many[len("[many] x = 1 -> true;"):], 2, api.ErrStates)
	if m, _, err := All(laid(t, b+many[len("[many] x = 1 -> true;"):]), 3); err != nil || len(m.Choices[1]) != 4096 {
		t.Errorf("All of 4096 ways: %v", err)
	}
}

// P13.1: of several states' errors that of the state that was found first, whatever
// stands first in the text.
func TestErrorsOfSeveralStates(t *testing.T) {
	all := []struct {
		within, behind string // the module, of a state that stands as %
		errno          api.Errno
	}{
		{"", "", api.ErrDead},
		{"[] x = % -> true; ", ` label "%" = x = % & ^` + over + " > 0;", api.ErrOver},
		{"[] x = % -> (x' = 3) + (x' = ^10); ", "", api.ErrRange},
		{"[] x = % & ^" + over + " > 0 -> true; ", "", api.ErrOver},
		{"[] x = % -> true + (x' = 3); ", "", api.ErrStates},
	}
	late := func(s string) string { return strings.NewReplacer("%", "1", "^", "").Replace(s) }
	early := func(s string) string { return strings.ReplaceAll(s, "%", "2") }
	for _, first := range all {
		for _, second := range all {
			fails(t, "mdp module a x : [0..9]; "+late(second.within)+early(first.within)+"[] x = 0 -> (x' = 2) + (x' = 1); endmodule"+late(second.behind)+early(first.behind), 3, first.errno)
		}
	}
}

// variables: so many, of a module.
func variables(many int) string {
	s := ""
	for i := range many {
		s += "x" + strconv.Itoa(i) + " : bool; "
	}
	return s
}

// bad is a text that has no process, and why.
type bad struct {
	text  string
	errno api.Errno
}

// unread: texts that can't be parsed.
func unread() []bad {
	return []bad{
		{"^", api.ErrSyntax}, {"mdp module^", api.ErrSyntax}, {"mdp module a [] true -> true ^endmodule", api.ErrSyntax}, {"mdp ^\xff\x00", api.ErrSyntax},
		{"mdp module a [] true -> true; endmodule ^;", api.ErrSyntax}, {"mdp module a [] true -> ^0 : true; endmodule", api.ErrRange},
		{"mdp module a [] ^9223372036854775808 > 0 -> true; endmodule", api.ErrOver}, {"mdp module a [] (((((((((^true))))))))) -> true; endmodule", api.ErrDeep},
		{"mdp module a [] true -> true; endmodule" + strings.Repeat(" ", api.MaxText), api.ErrLong},
	}
}

// unlaid: texts that are parsed, but can't be laid flat.
func unlaid() []bad {
	return []bad{
		{"mdp module a x : [0..^q]; [] true -> true; endmodule", api.ErrName}, {"mdp const N = ^N; module a [] true -> true; endmodule", api.ErrCycle},
		{`mdp label "a" = true; label ^"a" = true; module a [] true -> true; endmodule`, api.ErrName}, {"mdp module a x : [0..1]; [] ^x -> true; endmodule", api.ErrType},
		{"mdp module a ^x : [1..0]; [] true -> true; endmodule", api.ErrRange}, {"mdp module a x : [0..1]; endmodule module b [] true -> (^x' = 0); endmodule", api.ErrOwner},
		{"mdp module a " + variables(16) + "^x16 : bool; [] true -> true; endmodule", api.ErrLong}, {"mdp module a x : [0..^" + over + "]; [] true -> true; endmodule", api.ErrOver},
	}
}

// unfound: texts that are laid flat, but whose states can't be found.
func unfound() []bad {
	return []bad{
		{"mdp module a endmodule", api.ErrDead}, {"mdp module a x : [0..1]; [] true -> (x' = ^x + 1); endmodule", api.ErrRange}, {line(10), api.ErrStates},
		{`mdp label "a" = ^` + over + " = 0; module a [] true -> true; endmodule", api.ErrOver}, {"mdp module a [] true -> 9223372036854775807 : true + true; endmodule", api.ErrOver},
	}
}

// P13.2
func TestTextsThatFail(t *testing.T) {
	for _, b := range slices.Concat(unread(), unlaid(), unfound()) {
		refuses(t, b.text, api.Limits{States: 9, Depth: 9}, b.errno)
	}
	for s, errno := range map[string]api.Errno{
		// Two errors: what is told first is not what stands first.
		"mdp module a x : [0..q]; [] true -> true; ^x": api.ErrSyntax, "mdp module a x : [2..1]; [] ^-> true; endmodule": api.ErrSyntax, "mdp module a endmodule module^": api.ErrSyntax,
		"mdp module a x : [0..1]; [] true -> (x' = x + 1); [] ^x -> true; endmodule": api.ErrType, "mdp module a endmodule module b x : [0..^q]; endmodule": api.ErrName,
		`mdp label "a" = ` + over + ` = 0; label "b" = ^1; module a endmodule`: api.ErrType, "mdp module a y : [0..1]; [] true -> true; endmodule module b x : [0..1]; [] false -> (^y' = 5); endmodule": api.ErrOwner,
	} {
		refuses(t, s, api.Limits{States: 9, Depth: 9}, errno)
	}
}

// P13.2: the text's errors come ahead of that of a limit of states that can't be,
// this one ahead of those of the states.
func TestLimitsOfTexts(t *testing.T) {
	for _, states := range []int{math.MinInt, -1, 0, api.MaxNodes + 1, math.MaxInt} {
		l := api.Limits{States: states, Auto: 9, Depth: 9}
		for _, b := range slices.Concat(unread(), unlaid()) {
			refuses(t, b.text, l, b.errno)
		}
		for _, b := range unfound() {
			refuses(t, strings.ReplaceAll(b.text, "^", ""), l, api.ErrArg)
		}
		refuses(t, line(1), l, api.ErrArg)
	}
	for _, depth := range []int{math.MinInt, -1, 0, api.MaxDepth + 1, math.MaxInt} {
		for _, b := range slices.Concat(unread(), unlaid(), unfound(), []bad{{text: line(1)}}) {
			refuses(t, strings.ReplaceAll(b.text, "^", ""), api.Limits{States: 9, Auto: 9, Depth: depth}, api.ErrArg)
		}
	}
	refuses(t, line(1), api.Limits{}, api.ErrArg)
	refuses(t, "", api.Limits{}, api.ErrArg)
}

// P13.2: expressions as deep as may be, and one level deeper.
func TestDepth(t *testing.T) {
	for _, depth := range []int{1, 2, 3, 9, 63, api.MaxDepth} {
		deep := func(levels int) string {
			return "mdp module a x : [0..1]; [] " + strings.Repeat("(", levels-1) + "^x = 0" + strings.Repeat(")", levels-1) + " -> true; endmodule"
		}
		text, _ := marked(deep(depth))
		l := api.Limits{States: 1, Depth: depth}
		if m, err := Text(text, l); err != nil || !isWhole(m, make([][]int32, 1)) {
			t.Errorf("Text(%s, %+v): %+v, %v", text, l, m, err)
		}
		refuses(t, deep(depth+1), l, api.ErrDeep)
		// It is deep only in the text: what was laid flat has no depth.
		if m, _, err := All(laid(t, text), 1); err != nil || len(m.Choices) != 1 {
			t.Errorf("All(%s): %+v, %v", text, m, err)
		}
	}
}

// P13.2: Auto plays no part.
func TestAuto(t *testing.T) {
	want, _, err := All(laid(t, line(5)), 5)
	if err != nil {
		t.Fatal(err)
	}
	for _, auto := range []int{math.MinInt, -1, 0, 1, 4, 5, 4096, 4097, math.MaxInt} {
		if m, err := Text(line(5), api.Limits{States: 5, Auto: auto, Depth: 1}); err != nil || !reflect.DeepEqual(m, want) {
			t.Errorf("Text with %d: %+v, %v", auto, m, err)
		}
		refuses(t, line(5), api.Limits{States: 4, Auto: auto, Depth: 1}, api.ErrStates)
	}
}
