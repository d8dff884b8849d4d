package explore

import (
	"math"
	"reflect"
	"slices"
	"strings"
	"testing"

	"sortilege/api"
	"sortilege/check"
	"sortilege/expr"
	"sortilege/mdp"
)

// several is a model with ways, moves, labels and variables, each more than one.
const several = `mdp label "a" = x > 0; label "b" = c; label "none" = false; label "c" = true;
	module m x : [0..2]; c : bool init true; [] x < 2 -> 2 : (x' = x + 1) + 3 : (c' = false) + true; [go] true -> (x' = 0); [] x = 2 -> (c' = !c) + (x' = 1); endmodule
	module n y : [-1..0]; [go] x > 0 -> (y' = -1 - y) + 4 : true; [on] y < 0 -> true; [on] true -> 9 : (y' = 0); endmodule`

// found is all that is told of a flat model, and of its text.
type found struct {
	process mdp.MDP
	states  [][]int32
	text    mdp.MDP
}

// find all that is told.
func find(t *testing.T, f check.Flat) found {
	t.Helper()
	m, states, err := All(f, 100)
	if err != nil || len(states) < 8 {
		t.Fatalf("All: %v, %v", states, err)
	}
	text, err := Text(several, api.Limits{States: 100, Depth: 9})
	if err != nil {
		t.Fatalf("Text: %v", err)
	}
	return found{m, states, text}
}

// spoil all that a process has, and what its lists may grow to.
func spoil(m mdp.MDP) {
	for i := range m.Choices {
		for _, c := range m.Choices[i] {
			clear(c.Moves[:cap(c.Moves)])
		}
		clear(m.Choices[i][:cap(m.Choices[i])])
	}
	for _, l := range m.Holds {
		clear(l[:cap(l)])
	}
	clear(m.Choices[:cap(m.Choices)])
	clear(m.Holds[:cap(m.Holds)])
	clear(m.Names[:cap(m.Names)])
}

// R4, R6: what is handed in stays, what is told is the caller's, and is told again.
func TestNothingIsChangedOrKept(t *testing.T) {
	f := laid(t, several)
	first, want := find(t, f), find(t, laid(t, several))
	if !reflect.DeepEqual(first, want) {
		t.Fatalf("%+v; of the same text %+v", first, want)
	}
	second := find(t, f)
	spoil(second.process)
	spoil(second.text)
	for _, l := range second.states {
		for i := range l[:cap(l)] {
			l[:cap(l)][i] = 77
		}
	}
	clear(second.states)
	if !reflect.DeepEqual(f, laid(t, several)) {
		t.Errorf("the model became %+v", f)
	}
	if !reflect.DeepEqual(first, want) || !reflect.DeepEqual(find(t, f), want) {
		t.Errorf("%+v became %+v, and then %+v", want, first, find(t, f))
	}
	for _, r := range f.Rules {
		clear(r.Branches)
	}
	clear(f.Rules)
	clear(f.Labels)
	clear(f.Vars)
	if !reflect.DeepEqual(first, want) {
		t.Errorf("with what was handed in %+v became %+v", want, first)
	}
}

// R4: a call that fails keeps nothing, either.
func TestNothingIsKeptOfErrors(t *testing.T) {
	f := laid(t, several)
	want := find(t, f)
	for limit := range len(want.states) {
		if _, _, err := All(f, limit); err == nil {
			t.Errorf("All with %d: no error", limit)
		}
		if !reflect.DeepEqual(f, laid(t, several)) || !reflect.DeepEqual(find(t, f), want) {
			t.Fatalf("behind All with %d it is another one", limit)
		}
	}
}

// apart: do no two of the lists share memory, up to what they may grow to? Each is
// filled with items of its own, which it has still when all are filled.
func apart[T comparable](lists [][]T, item func(i int) T) bool {
	for i, l := range lists {
		for k := range l[:cap(l)] {
			l[:cap(l)][k] = item(i)
		}
	}
	for i, l := range lists {
		if slices.ContainsFunc(l[:cap(l)], func(x T) bool { return x != item(i) }) {
			return false
		}
	}
	return true
}

// R4: no two lists of one answer share memory.
func TestListsOfOneAnswer(t *testing.T) {
	m, states, err := All(laid(t, several), 100)
	if err != nil {
		t.Fatal(err)
	}
	var moves [][]mdp.Move
	for _, l := range m.Choices {
		for _, c := range l {
			moves = append(moves, c.Moves)
		}
	}
	if !apart(moves, func(i int) mdp.Move { return mdp.Move{To: i} }) {
		t.Error("moves share memory")
	}
	if !apart(m.Holds, func(i int) int { return i }) {
		t.Error("labels that hold share memory")
	}
	if !apart(states, func(i int) int32 { return int32(i) }) {
		t.Error("states share memory")
	}
	for i, l := range m.Choices {
		for k := range l[:cap(l)] {
			l[:cap(l)][k] = mdp.Choice{Moves: make([]mdp.Move, i)}
		}
	}
	for i, l := range m.Choices {
		if slices.ContainsFunc(l, func(c mdp.Choice) bool { return len(c.Moves) != i }) {
			t.Error("choices share memory")
		}
	}
}

// at: an expression at a place.
func at(pos int, op string, kids ...expr.Expr) expr.Expr {
	return expr.Expr{Op: op, Name: "x", N: 7, Kids: kids, Pos: pos}
}

// odd: flat models that check.Lay makes of no text.
func odd() []check.Flat {
	x, yes, seven := check.Slot{Name: "x", High: 9}, at(1, "true"), at(2, "num")
	set := func(i int, e expr.Expr) check.Branch {
		return check.Branch{Weight: 1, Sets: []check.Set{{Var: i, X: e}}}
	}
	rule := func(guard expr.Expr, l ...check.Branch) check.Rule { return check.Rule{Guard: guard, Branches: l} }
	deep := yes
	for range 3000 {
		deep = at(3, "!", deep)
	}
	l := []check.Flat{
		{}, {Modules: math.MinInt}, {Modules: math.MaxInt, Labels: []check.Label{{}}}, {Labels: []check.Label{{X: yes}, {X: yes}}, Rules: []check.Rule{rule(yes, check.Branch{})}},
		// Rules without branches, with weights at their ends, and without anything.
		{Rules: []check.Rule{rule(yes)}}, {Rules: []check.Rule{rule(yes, check.Branch{Weight: math.MinInt64}, check.Branch{Weight: -1})}}, {Rules: make([]check.Rule, 99)},
		// More variables than a vector has.
		{Vars: make([]check.Slot, api.MaxVector), Rules: []check.Rule{rule(yes, check.Branch{Weight: 1})}},
		{Vars: make([]check.Slot, api.MaxVector+1), Rules: []check.Rule{rule(yes, check.Branch{Weight: 1})}}, {Vars: make([]check.Slot, 9999)},
		// Variables that begin outside of their range, and that come again.
		{Vars: []check.Slot{{Name: "x", Low: 5, High: -5, Init: math.MaxInt32}, x, {Name: "x", Bool: true, Init: math.MinInt32}}, Rules: []check.Rule{rule(yes, set(1, seven)), rule(at(4, "name"), set(2, yes))}},
	}
	for _, e := range []expr.Expr{{}, seven, yes, deep, at(5, "?"), at(5, "name"), at(5, "none", yes), at(5, "=", yes, seven)} {
		for _, i := range []int{math.MinInt, -1, 0, 1, math.MaxInt} {
			l = append(l, check.Flat{Vars: []check.Slot{x}, Rules: []check.Rule{rule(e, set(i, e)), rule(yes, set(i, seven), set(0, e))}, Labels: []check.Label{{X: e}}})
		}
	}
	return l
}

// R1, R2: of models that check.Lay didn't make whatever is told, but no panic, and
// nothing beside an error.
func TestOddModels(t *testing.T) {
	for i, f := range odd() {
		for _, limit := range []int{math.MinInt, 0, 1, 2, 9, api.MaxNodes, api.MaxNodes + 1} {
			m, states, err := All(f, limit)
			if err != nil && (!reflect.DeepEqual(m, mdp.MDP{}) || len(states) != 0) {
				t.Errorf("All of %d, %d: %+v, %v, %v", i, limit, m, states, err)
			}
			if may := limit >= 1 && limit <= api.MaxNodes; !may && err != error(api.ErrArg) || may && err == nil && len(states) > limit {
				t.Errorf("All of %d, %d: %d, %v", i, limit, len(states), err)
			}
		}
	}
}

// R1, R2: texts of any bytes.
func TestOddTexts(t *testing.T) {
	for _, s := range []string{"", "\x00", "\xff\xfe", "mdp", strings.Repeat("(", 70000), "mdp " + strings.Repeat("module a endmodule ", 3000), several[:200], several[100:]} {
		for _, l := range []api.Limits{{}, {States: 9, Auto: 9, Depth: 9}, {States: -1, Auto: -1, Depth: 64}, {States: math.MaxInt, Auto: math.MinInt, Depth: math.MinInt}} {
			if m, err := Text(s, l); err == nil || !reflect.DeepEqual(m, mdp.MDP{}) {
				t.Errorf("Text(%s, %+v): %+v, %v", short(s), l, m, err)
			}
		}
	}
}

// P13.1: more variables than a text may have, up to as many as a vector has.
func TestManyVariables(t *testing.T) {
	f := laid(t, "mdp module a x : [0..3]; [] x < 3 -> (x' = x + 1); [] x = 3 -> (x' = 0); endmodule")
	f.Vars = append(f.Vars, make([]check.Slot, api.MaxVector-1)...)
	if p, states, err := All(f, 4); err != nil || !isWhole(p, states) || len(states[3]) != api.MaxVector || states[3][0] != 3 {
		t.Errorf("All: %+v, %v, %v", p, states, err)
	}
	f.Vars = append(f.Vars, check.Slot{})
	if p, states, err := All(f, 4); err != error(api.ErrLong) || !reflect.DeepEqual(p, mdp.MDP{}) || len(states) != 0 {
		t.Errorf("All: %+v, %v, %v", p, states, err)
	}
}
