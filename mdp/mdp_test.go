package mdp

import (
	"fmt"
	"math"
	"reflect"
	"slices"
	"strconv"
	"testing"

	"sortilege/api"
)

// ends of the numbers that no process has as states, places or weights.
var ends = []int{math.MinInt, -4096, -1, 4096, 4097, 1 << 32, math.MaxInt}

// to: a choice with moves to some states, of which no two have the same weight.
func to(action string, states ...int) Choice {
	c := Choice{Action: action}
	for i, s := range states {
		c.Moves = append(c.Moves, Move{To: s, Weight: int64(i + 1)})
	}
	return c
}

// sample: a process that is right; from 1 all states but 4 can be come to.
func sample() MDP {
	return MDP{
		Init: 1,
		Choices: [][]Choice{
			{to("", 0)},
			{to("go", 3, 0, 1), to("stay", 1), to("go", 1)},
			{to("back", 1, 3)},
			{to("", 2), to("", 2)},
			{to("go", 0, 1, 2, 3, 4)},
		},
		Names: []string{"a", "b", "c"},
		Holds: [][]int{{}, {0, 1, 2}, {1}, {0, 2}, {2}},
	}
}

// ring: a process of so many states, each leading to the next one, the last one to
// the first one.
func ring(n int) MDP {
	m := MDP{Choices: make([][]Choice, n), Holds: make([][]int, n)}
	for s := range n {
		m.Choices[s] = []Choice{to("", (s+1)%n)}
	}
	return m
}

// edited: the sample after an edit.
func edited(edit func(m *MDP)) MDP {
	m := sample()
	edit(&m)
	return m
}

// copied: the same process in other memory.
func copied(m MDP) MDP {
	c := m
	c.Names = slices.Clone(m.Names)
	c.Holds = slices.Clone(m.Holds)
	for s, l := range m.Holds {
		c.Holds[s] = slices.Clone(l)
	}
	c.Choices = slices.Clone(m.Choices)
	for s, l := range m.Choices {
		c.Choices[s] = slices.Clone(l)
		for i, choice := range l {
			c.Choices[s][i].Moves = slices.Clone(choice.Moves)
		}
	}
	return c
}

// upTo: 0, 1 and so on, so many.
func upTo(n int) []int {
	l := make([]int, n)
	for i := range l {
		l[i] = i
	}
	return l
}

// short: numbers as they may be shown.
func short(l []int) string {
	if len(l) > 40 {
		return fmt.Sprint(l[:40]) + " and on, " + strconv.Itoa(len(l))
	}
	return fmt.Sprint(l)
}

// isRightFor: all calls take a process for one that is right.
func isRightFor(t *testing.T, what string, m MDP) {
	t.Helper()
	if err := Check(m); err != nil {
		t.Errorf("%s: Check: %v", what, err)
	}
	if l := Reach(m); !slices.Contains(l, m.Init) {
		t.Errorf("%s: Reach: %d states without %d", what, len(l), m.Init)
	}
	if l, err := Letters(m, nil); err != nil || len(l) != len(m.Choices) {
		t.Errorf("%s: Letters: %d, %v", what, len(l), err)
	}
}

// isWrongFor: all calls refuse a process, whatever the labels are.
func isWrongFor(t *testing.T, what string, m MDP) {
	t.Helper()
	if err := Check(m); err != api.ErrArg {
		t.Errorf("%s: Check: %v", what, err)
	}
	if l := Reach(m); len(l) != 0 {
		t.Errorf("%s: Reach: %d states", what, len(l))
	}
	for _, labels := range [][]string{nil, {}, {"a"}, {"nowhere"}, {"a", "a"}, {"1", "2", "3", "4", "5", "6", "7"}} {
		lettersFail(t, what, m, labels, api.ErrArg)
	}
}

// lettersFail: there are no letters, for this error.
func lettersFail(t *testing.T, what string, m MDP, labels []string, errno api.Errno) {
	t.Helper()
	if l, err := Letters(m, labels); len(l) != 0 || err != errno {
		t.Errorf("%s: Letters of %q: %v, %v; want %v", what, labels, l, err, int(errno))
	}
}

// lettersAre: there are just these letters.
func lettersAre(t *testing.T, what string, m MDP, labels []string, want ...int) {
	t.Helper()
	if l, err := Letters(m, labels); err != nil || !slices.Equal(l, want) {
		t.Errorf("%s: Letters of %q: %s, %v; want %s", what, labels, short(l), err, short(want))
	}
}

// reaches: just these states can be come to.
func reaches(t *testing.T, what string, m MDP, want ...int) {
	t.Helper()
	if l := Reach(m); !slices.Equal(l, want) {
		t.Errorf("%s: Reach: %s; want %s", what, short(l), short(want))
	}
}

// P11.1
func TestTheChaptersExample(t *testing.T) {
	m := MDP{Choices: [][]Choice{{to("", 0)}}, Holds: [][]int{nil}}
	isRightFor(t, "the example", m)
	reaches(t, "the example", m, 0)
	isRightFor(t, "the sample", sample())
}

// P11.1
func TestCheckOfHowManyStates(t *testing.T) {
	for _, n := range []int{1, 2, 4095, 4096} {
		for _, init := range []int{0, n / 2, n - 1} {
			m := ring(n)
			m.Init = init
			isRightFor(t, strconv.Itoa(n)+" states from "+strconv.Itoa(init), m)
		}
		for _, init := range append([]int{n, n + 1}, ends...) {
			if init < 0 || init >= n {
				m := ring(n)
				m.Init = init
				isWrongFor(t, strconv.Itoa(n)+" states from "+strconv.Itoa(init), m)
			}
		}
	}
	for _, n := range []int{4097, 4098, 5000, 8192} {
		isWrongFor(t, strconv.Itoa(n)+" states", ring(n))
	}
	for _, init := range append([]int{0, 1}, ends...) {
		isWrongFor(t, "no states", MDP{Init: init})
		isWrongFor(t, "no states", MDP{Init: init, Choices: [][]Choice{}, Names: []string{"a"}, Holds: [][]int{}})
	}
}

// P11.1
func TestCheckOfHowManyEntries(t *testing.T) {
	for _, n := range []int{1, 2, 3, 4096} {
		m := ring(n)
		for _, holds := range []int{0, n - 1, n + 1, 4096, 4097} {
			if m.Holds = make([][]int, holds); holds != n {
				isWrongFor(t, strconv.Itoa(n)+" states, Holds of "+strconv.Itoa(holds), m)
			}
		}
	}
	isWrongFor(t, "no Choices", MDP{Holds: [][]int{nil}})
	isWrongFor(t, "no Holds", MDP{Choices: [][]Choice{{to("", 0)}}})
	isWrongFor(t, "4096 Choices, 4097 Holds", MDP{Choices: ring(4096).Choices, Holds: make([][]int, 4097)})
	isWrongFor(t, "4097 Choices, 4096 Holds", MDP{Choices: ring(4097).Choices, Holds: make([][]int, 4096)})
}

// P11.1
func TestCheckOfChoicesAndMoves(t *testing.T) {
	for s := range sample().Choices {
		isWrongFor(t, "nil choices", edited(func(m *MDP) { m.Choices[s] = nil }))
		isWrongFor(t, "no choices", edited(func(m *MDP) { m.Choices[s] = []Choice{} }))
		isRightFor(t, "many choices", edited(func(m *MDP) { m.Choices[s] = slices.Repeat([]Choice{to("x", 4, 0)}, 5000) }))
		for i, c := range sample().Choices[s] {
			isWrongFor(t, "nil moves", edited(func(m *MDP) { m.Choices[s][i].Moves = nil }))
			isWrongFor(t, "no moves", edited(func(m *MDP) { m.Choices[s][i].Moves = []Move{} }))
			isRightFor(t, "another action", edited(func(m *MDP) { m.Choices[s][i].Action = "\xff\n" }))
			isRightFor(t, "all moves", edited(func(m *MDP) { m.Choices[s][i] = to("", 4, 3, 2, 1, 0) }))
			for j := range c.Moves {
				checkMove(t, s, i, j)
			}
			isRightFor(t, "the choice twice", edited(func(m *MDP) { m.Choices[s] = append(m.Choices[s], c) }))
			isWrongFor(t, "the moves twice", edited(func(m *MDP) { m.Choices[s][i].Moves = slices.Repeat(c.Moves, 2) }))
		}
	}
}

// checkMove: one move of the sample, with other states and weights.
func checkMove(t *testing.T, s, i, j int) {
	t.Helper()
	move := func(v Move) MDP { return edited(func(m *MDP) { m.Choices[s][i].Moves[j] = v }) }
	moves := sample().Choices[s][i].Moves
	for _, state := range append([]int{0, 1, 2, 3, 4, 5, 6}, ends...) {
		elsewhere := slices.ContainsFunc(moves, func(v Move) bool { return v.To == state && v != moves[j] })
		if what := "a move to " + strconv.Itoa(state); state < 0 || state > 4 || elsewhere {
			isWrongFor(t, what, move(Move{To: state, Weight: 1}))
		} else {
			isRightFor(t, what, move(Move{To: state, Weight: 1}))
		}
	}
	for _, w := range []int64{1, 2, 1 << 32, math.MaxInt64} {
		isRightFor(t, "the weight "+strconv.FormatInt(w, 10), move(Move{To: moves[j].To, Weight: w}))
	}
	for _, w := range []int64{0, -1, math.MinInt32, math.MinInt64} {
		isWrongFor(t, "the weight "+strconv.FormatInt(w, 10), move(Move{To: moves[j].To, Weight: w}))
	}
}

// P11.1
func TestCheckOfTwoMovesToOneState(t *testing.T) {
	for _, l := range [][]int{{0, 0}, {4, 4}, {2, 1, 2}, {0, 1, 2, 3, 4, 0}, {3, 4, 4}} {
		isWrongFor(t, "of one choice", edited(func(m *MDP) { m.Choices[4] = []Choice{to("", 0), to("", l...)} }))
		isWrongFor(t, "of one choice", edited(func(m *MDP) { m.Choices[0] = []Choice{to("", l...), to("", 0)} }))
	}
	isWrongFor(t, "with one weight", edited(func(m *MDP) { m.Choices[0] = []Choice{{Moves: []Move{{To: 1, Weight: 1}, {To: 1, Weight: 1}}}} }))
	isRightFor(t, "of two choices", edited(func(m *MDP) { m.Choices[0] = []Choice{to("x", 1, 2), to("x", 1, 2), to("x", 2, 1)} }))
	isRightFor(t, "of two states", edited(func(m *MDP) { m.Choices[0], m.Choices[1] = m.Choices[4], m.Choices[4] }))
	m := ring(4096)
	m.Choices[4095] = []Choice{to("", upTo(4096)...)}
	isRightFor(t, "of all", m)
	m.Choices[4095] = []Choice{to("", append(upTo(4096), 4095)...)}
	isWrongFor(t, "of the last one", m)
	m.Choices[4095] = []Choice{to("", append(upTo(4096), 0)...)}
	isWrongFor(t, "of the first one", m)
}

// P11.1
func TestCheckOfNames(t *testing.T) {
	names := func(l ...string) MDP { return edited(func(m *MDP) { m.Names = l }) }
	for _, l := range [][]string{{"", "a", "b"}, {"a", "A", "aa"}, {"c", "b", "a"}, {"a", "a ", " a", "a\x00"}, {"\xff", "\xfe", "ü"}, {"1", "2", "3", "4", "5", "6", "7", "8"}} {
		isRightFor(t, strconv.Quote(l[0])+" and others that differ", names(l...))
		for i := range l {
			for j := range l {
				if i != j {
					two := slices.Clone(l)
					two[i] = two[j]
					isWrongFor(t, strconv.Quote(two[i])+" twice", names(two...))
				}
			}
		}
	}
	m := ring(3)
	for _, l := range [][]string{nil, {}, {""}, {"x"}, {"x", ""}} {
		m.Names = l
		isRightFor(t, strconv.Itoa(len(l))+" names", m)
	}
	for _, l := range [][]string{{"", ""}, {"x", "x"}, {"x", "y", "x"}} {
		m.Names = l
		isWrongFor(t, strconv.Itoa(len(l))+" names", m)
	}
	m.Names = nil
	for i := range 10000 {
		m.Names = append(m.Names, strconv.Itoa(i))
	}
	isRightFor(t, "10000 names", m)
	m.Names = append(m.Names, "9999")
	isWrongFor(t, "10000 names, the last one twice", m)
}

// P11.1
func TestCheckOfHolds(t *testing.T) {
	for s := range sample().Holds {
		holds := func(l ...int) MDP { return edited(func(m *MDP) { m.Holds[s] = l }) }
		for _, l := range [][]int{nil, {}, {0}, {1}, {2}, {0, 1}, {0, 2}, {1, 2}, {0, 1, 2}} {
			isRightFor(t, "places that rise", holds(l...))
		}
		for _, l := range [][]int{{3}, {4}, {0, 3}, {0, 1, 2, 3}, {-1}, {-1, 0}, {-1, 0, 1, 2}, {0, -1}, {2, 3}} {
			isWrongFor(t, "places of no names", holds(l...))
		}
		for _, l := range [][]int{{1, 0}, {2, 1}, {2, 0}, {0, 2, 1}, {1, 0, 2}, {2, 1, 0}} {
			isWrongFor(t, "places that fall", holds(l...))
		}
		for _, l := range [][]int{{0, 0}, {1, 1}, {2, 2}, {0, 1, 1}, {0, 0, 2}, {0, 1, 2, 2}, {1, 2, 1}, {0, 1, 2, 0}} {
			isWrongFor(t, "a place twice", holds(l...))
		}
		for _, i := range ends {
			isWrongFor(t, "a place at an end", holds(i))
			isWrongFor(t, "a place at an end", holds(0, i))
			isWrongFor(t, "a place at an end", holds(i, 2))
		}
	}
	isWrongFor(t, "a place without names", MDP{Choices: [][]Choice{{to("", 0)}}, Holds: [][]int{{0}}})
	m := ring(4096)
	m.Names = []string{"x"}
	m.Holds[4095] = []int{0}
	isRightFor(t, "of the last state", m)
	m.Holds[4095] = []int{1}
	isWrongFor(t, "of the last state", m)
}

// P11.1
func TestReach(t *testing.T) {
	reaches(t, "the sample", sample(), 0, 1, 2, 3)
	reaches(t, "a round behind a dead end", edited(func(m *MDP) { m.Init = 0 }), 0)
	reaches(t, "all", edited(func(m *MDP) { m.Init = 4 }), 0, 1, 2, 3, 4)
	reaches(t, "the others", edited(func(m *MDP) { m.Init = 2 }), 0, 1, 2, 3)
	reaches(t, "by the last choice", edited(func(m *MDP) { m.Choices[0] = []Choice{to("", 0), to("", 0), to("", 0, 2)}; m.Init = 0 }), 0, 1, 2, 3)
	reaches(t, "not itself again", edited(func(m *MDP) { m.Choices[3] = []Choice{to("", 0)}; m.Init = 3 }), 0, 3)
	reaches(t, "whatever weighs", edited(func(m *MDP) {
		m.Init = 4
		m.Choices[4] = []Choice{{Moves: []Move{{To: 0, Weight: 1}, {To: 4, Weight: math.MaxInt64}}}}
	}), 0, 4)
}

// P11.1
func TestReachOfLongWays(t *testing.T) {
	for _, n := range []int{1, 2, 100, 4096} {
		m := ring(n)
		m.Init = n / 2
		reaches(t, "round and round", m, upTo(n)...)
		m.Choices[n-1] = []Choice{to("", n-1)}
		reaches(t, "to the end", m, upTo(n)[n/2:]...)
		m.Choices[0] = []Choice{to("", upTo(n)...)}
		m.Init = 0
		reaches(t, "to all at once", m, upTo(n)...)
		m.Choices[0] = []Choice{to("", 0)}
		reaches(t, "nowhere else", m, 0)
	}
	m := ring(4096)
	for s := range m.Choices {
		m.Choices[s] = []Choice{to("stay", s), to("back", max(s-1, 0))}
	}
	m.Init = 4000
	reaches(t, "backwards", m, upTo(4001)...)
}

// P11.1
func TestSupport(t *testing.T) {
	for _, x := range []struct{ moves, want []int }{
		{nil, nil},
		{[]int{0}, []int{0}},
		{[]int{7}, []int{7}},
		{[]int{0, 1, 2}, []int{0, 1, 2}},
		{[]int{2, 1, 0}, []int{0, 1, 2}},
		{[]int{3, 9, 1, 4}, []int{1, 3, 4, 9}},
		{[]int{5, 5}, []int{5}},
		{[]int{2, 0, 2, 1, 0, 2}, []int{0, 1, 2}},
		{[]int{4096, 4095, 5000}, []int{4095, 4096, 5000}},
		{[]int{-1, 3, -7, -1}, []int{-7, -1, 3}},
		{[]int{math.MaxInt, 0, math.MinInt, math.MaxInt}, []int{math.MinInt, 0, math.MaxInt}},
	} {
		if l := Support(to("x", x.moves...)); !slices.Equal(l, x.want) {
			t.Errorf("Support of %v: %v; want %v", x.moves, l, x.want)
		}
	}
	if l := Support(Choice{Moves: []Move{}}); len(l) != 0 {
		t.Errorf("Support of no moves: %v", l)
	}
	odd := Choice{Moves: []Move{{To: 2}, {To: 1, Weight: -1}, {To: 0, Weight: math.MinInt64}, {To: 2, Weight: math.MaxInt64}}}
	if l := Support(odd); !slices.Equal(l, []int{0, 1, 2}) {
		t.Errorf("Support of odd weights: %v", l)
	}
	turned := upTo(4096)
	slices.Reverse(turned)
	if l := Support(to("", append(turned, turned...)...)); !slices.Equal(l, upTo(4096)) {
		t.Errorf("Support of many: %d states", len(l))
	}
}

// P11.2
func TestLetters(t *testing.T) {
	m := sample()
	lettersAre(t, "the sample", m, []string{"a", "b", "c"}, 0, 7, 2, 5, 4)
	lettersAre(t, "the sample", m, []string{"c", "b", "a"}, 0, 7, 2, 5, 1)
	lettersAre(t, "the sample", m, []string{"c", "a", "b"}, 0, 7, 4, 3, 1)
	lettersAre(t, "two", m, []string{"a", "b"}, 0, 3, 2, 1, 0)
	lettersAre(t, "two at other places", m, []string{"c", "a"}, 0, 3, 0, 3, 1)
	for i, name := range m.Names {
		want := make([]int, 5)
		for s, l := range m.Holds {
			if slices.Contains(l, i) {
				want[s] = 1
			}
		}
		lettersAre(t, "one", m, []string{name}, want...)
	}
	lettersAre(t, "nil labels", m, nil, 0, 0, 0, 0, 0)
	lettersAre(t, "no labels", m, []string{}, 0, 0, 0, 0, 0)
	lettersAre(t, "no names", ring(3), nil, 0, 0, 0)
	lettersAre(t, "states that can't be come to", edited(func(m *MDP) { m.Init = 0 }), []string{"b", "c"}, 0, 3, 1, 2, 2)
}

// eight: a process of 256 states in which each set of eight names holds once.
func eight() MDP {
	m := ring(256)
	m.Names = []string{"0", "1", "2", "3", "4", "5", "6", "7"}
	for s := range m.Holds {
		for i := range m.Names {
			if s>>i&1 == 1 {
				m.Holds[s] = append(m.Holds[s], i)
			}
		}
	}
	return m
}

// P11.2
func TestLettersOfSixLabels(t *testing.T) {
	m := eight()
	want := make([]int, 256)
	for s := range want {
		want[s] = s & 63
	}
	lettersAre(t, "the first six", m, m.Names[:6], want...)
	for s := range want {
		want[s] = s >> 2
	}
	lettersAre(t, "the last six", m, m.Names[2:], want...)
	turned := []string{"7", "5", "3", "2", "1", "0"}
	for s := range want {
		want[s] = s>>7&1 + s>>5&1*2 + s>>3&1*4 + s>>2&1*8 + s>>1&1*16 + s&1*32
	}
	lettersAre(t, "six of them turned", m, turned, want...)
	lettersFail(t, "seven", m, m.Names[:7], api.ErrArg)
	lettersFail(t, "eight", m, m.Names, api.ErrArg)
}

// P11.2, R2
func TestLettersRefusesLabels(t *testing.T) {
	m := eight()
	for _, l := range [][]string{{"8"}, {""}, {"0", "00"}, {" 0"}, {"0", "1", "2", "3", "4", "x"}, {"x", "0"}, {"x", "y"}} {
		lettersFail(t, "no name", m, l, api.ErrName)
	}
	for _, l := range [][]string{{"0", "0"}, {"0", "1", "0"}, {"7", "1", "2", "3", "4", "7"}, {"1", "2", "2"}} {
		lettersFail(t, "twice", m, l, api.ErrArg)
	}
	for _, l := range [][]string{{"x", "x"}, {"x", "0", "0"}, {"0", "x", "0"}, {"0", "0", "x"}, {"", ""}} {
		lettersFail(t, "twice, and no name", m, l, api.ErrArg)
	}
	for _, l := range [][]string{{"x", "0", "1", "2", "3", "4", "5"}, {"0", "1", "2", "3", "4", "5", "x"}, slices.Repeat([]string{"0"}, 7), make([]string, 5000)} {
		lettersFail(t, "too many, and others", m, l, api.ErrArg)
	}
	lettersFail(t, "no names", ring(2), []string{"a"}, api.ErrName)
	lettersFail(t, "no names", ring(2), []string{""}, api.ErrName)
	lettersAre(t, "the empty name", MDP{Choices: ring(2).Choices, Names: []string{"", "x"}, Holds: [][]int{{1}, {0, 1}}}, []string{"x", ""}, 1, 3)
}

// alike: what Alike tells of two processes, in both orders.
func alike(t *testing.T, what string, a, b MDP, want bool) {
	t.Helper()
	if ab, ba := Alike(a, b), Alike(b, a); ab != want || ba != want {
		t.Errorf("%s: Alike: %v, and turned %v; want %v", what, ab, ba, want)
	}
	if !Alike(a, copied(a)) || !Alike(copied(b), b) {
		t.Errorf("%s: a process isn't like itself", what)
	}
}

// P11.3
func TestAlikeButForWeightsAndTheOrderOfMoves(t *testing.T) {
	for s, l := range sample().Choices {
		for i, c := range l {
			alike(t, "moves turned", sample(), edited(func(m *MDP) { slices.Reverse(m.Choices[s][i].Moves) }), true)
			for j := range c.Moves {
				for _, w := range []int64{1, 2, 77, math.MaxInt64, 0, -1, math.MinInt64} {
					other := edited(func(m *MDP) { m.Choices[s][i].Moves[j].Weight = w })
					alike(t, "another weight", sample(), other, true)
					slices.Reverse(other.Choices[s][i].Moves)
					alike(t, "another weight, moves turned", sample(), other, true)
				}
				alike(t, "moves shifted", sample(), edited(func(m *MDP) {
					m.Choices[s][i].Moves = append(slices.Clone(c.Moves[j:]), c.Moves[:j]...)
				}), true)
			}
		}
	}
	alike(t, "the sample", sample(), sample(), true)
	alike(t, "weights change places", edited(func(m *MDP) { m.Choices[0] = []Choice{{Moves: []Move{{To: 1, Weight: 2}, {To: 0, Weight: 9}}}} }),
		edited(func(m *MDP) { m.Choices[0] = []Choice{{Moves: []Move{{To: 0, Weight: 2}, {To: 1, Weight: 9}}}} }), true)
}

// P11.3
func TestAlikeOfOtherChoices(t *testing.T) {
	unlike := func(what string, edit func(m *MDP)) {
		t.Helper()
		alike(t, what, sample(), edited(edit), false)
	}
	unlike("choices in another order", func(m *MDP) { slices.Reverse(m.Choices[1]) })
	unlike("states in another order", func(m *MDP) { m.Choices[0], m.Choices[3] = m.Choices[3], m.Choices[0] })
	unlike("a state more", func(m *MDP) { m.Choices = append(m.Choices, m.Choices[0]) })
	unlike("a state fewer", func(m *MDP) { m.Choices = m.Choices[:4] })
	unlike("no choices at all", func(m *MDP) { m.Choices = nil })
	for s, l := range sample().Choices {
		unlike("a choice more", func(m *MDP) { m.Choices[s] = append(m.Choices[s], l[0]) })
		unlike("a choice more, without moves", func(m *MDP) { m.Choices[s] = append(m.Choices[s], Choice{}) })
		unlike("a choice fewer", func(m *MDP) { m.Choices[s] = l[1:] })
		unlike("no choices", func(m *MDP) { m.Choices[s] = nil })
		for i, c := range l {
			unlike("another action", func(m *MDP) { m.Choices[s][i].Action += " " })
			unlike("a move more", func(m *MDP) { m.Choices[s][i].Moves = append(c.Moves, Move{To: 5, Weight: 1}) })
			unlike("a move twice", func(m *MDP) { m.Choices[s][i].Moves = append(c.Moves, c.Moves[0]) })
			unlike("no moves", func(m *MDP) { m.Choices[s][i].Moves = nil })
			for j := range c.Moves {
				unlike("another state", func(m *MDP) { m.Choices[s][i].Moves[j].To += 5 })
				unlike("another state below", func(m *MDP) { m.Choices[s][i].Moves[j].To -= 5 })
				unlike("a move fewer", func(m *MDP) { m.Choices[s][i].Moves = slices.Delete(m.Choices[s][i].Moves, j, j+1) })
			}
		}
	}
	two := func(a, b Choice) MDP { return edited(func(m *MDP) { m.Choices[0] = []Choice{a, b} }) }
	alike(t, "moves go over to another choice", two(to("", 0), to("", 1, 2)), two(to("", 0, 1), to("", 2)), false)
	alike(t, "choices' moves change places", two(to("x", 0), to("y", 1)), two(to("x", 1), to("y", 0)), false)
	alike(t, "choices' actions change places", two(to("x", 0), to("y", 0)), two(to("y", 0), to("x", 0)), false)
	alike(t, "choices of one action change places", two(to("x", 0), to("x", 1)), two(to("x", 1), to("x", 0)), false)
}

// P11.3
func TestAlikeOfOtherLabels(t *testing.T) {
	unlike := func(what string, edit func(m *MDP)) {
		t.Helper()
		alike(t, what, sample(), edited(edit), false)
	}
	for _, init := range append([]int{0, 2, 3, 4, 5}, ends...) {
		unlike("another Init", func(m *MDP) { m.Init = init })
	}
	unlike("names in another order", func(m *MDP) { slices.Reverse(m.Names) })
	unlike("a name more", func(m *MDP) { m.Names = append(m.Names, "d") })
	unlike("a name fewer", func(m *MDP) { m.Names = m.Names[:2] })
	unlike("no names", func(m *MDP) { m.Names = nil })
	unlike("names and places in another order", func(m *MDP) {
		slices.Reverse(m.Names)
		for _, l := range m.Holds {
			slices.Reverse(l)
			for i := range l {
				l[i] = 2 - l[i]
			}
		}
	})
	for i := range sample().Names {
		unlike("another name", func(m *MDP) { m.Names[i] += "x" })
		unlike("the empty name", func(m *MDP) { m.Names[i] = "" })
	}
	for s, l := range sample().Holds {
		unlike("a place more", func(m *MDP) { m.Holds[s] = append(m.Holds[s], 3) })
		unlike("a place ahead", func(m *MDP) { m.Holds[s] = append([]int{-1}, l...) })
		if len(l) > 0 {
			unlike("a place fewer", func(m *MDP) { m.Holds[s] = l[1:] })
			unlike("another place", func(m *MDP) { m.Holds[s][0]++ })
			unlike("no places", func(m *MDP) { m.Holds[s] = nil })
		}
	}
	unlike("places in another order", func(m *MDP) { slices.Reverse(m.Holds[3]) })
	unlike("states' places change", func(m *MDP) { m.Holds[2], m.Holds[3] = m.Holds[3], m.Holds[2] })
	unlike("Holds of a state more", func(m *MDP) { m.Holds = append(m.Holds, nil) })
	unlike("Holds of a state fewer", func(m *MDP) { m.Holds = m.Holds[:4] })
	unlike("no Holds", func(m *MDP) { m.Holds = nil })
}

// P11.3
func TestAlikeOfProcessesThatAreNotRight(t *testing.T) {
	of := func(c ...Choice) MDP { return MDP{Init: -7, Choices: [][]Choice{nil, c}, Names: []string{"x", "x"}} }
	alike(t, "nothing", MDP{}, MDP{}, true)
	alike(t, "nothing and something", MDP{}, sample(), false)
	alike(t, "a state twice", of(to("", 0, 0, 1)), of(to("", 0, 1, 1)), false)
	alike(t, "a state twice", of(to("", 0, 0)), of(to("", 0)), false)
	alike(t, "a state twice, in another order", of(to("", 0, 0, 1)), of(to("", 0, 1, 0)), true)
	alike(t, "no states", of(to("", -1, 9, math.MinInt, math.MaxInt)), of(to("", math.MaxInt, -1, math.MinInt, 9)), true)
	alike(t, "no states", of(to("", -1, 9)), of(to("", -2, 9)), false)
	alike(t, "no moves", of(Choice{}), of(Choice{}), true)
	alike(t, "a choice without moves", of(Choice{}), of(), false)
	alike(t, "a state without choices", of(), MDP{Init: -7, Choices: [][]Choice{nil}, Names: []string{"x", "x"}}, false)
	alike(t, "names in one", MDP{Names: []string{"ab", "c"}}, MDP{Names: []string{"a", "bc"}}, false)
	alike(t, "places in one", MDP{Holds: [][]int{{1}, {2}}}, MDP{Holds: [][]int{{1, 2}, {}}}, false)
	alike(t, "no right places", MDP{Holds: [][]int{{5, 5, -1}}}, MDP{Holds: [][]int{{5, 5, -1}}}, true)
	alike(t, "no right places turned", MDP{Holds: [][]int{{5, 5, -1}}}, MDP{Holds: [][]int{{-1, 5, 5}}}, false)
	alike(t, "too many states", ring(4097), ring(4097), true)
	alike(t, "one fewer", ring(4097), ring(4096), false)
}

// P11.3, R3
func TestAlikeOfNilAndEmptyLists(t *testing.T) {
	alike(t, "no lists", MDP{}, MDP{Choices: [][]Choice{}, Names: []string{}, Holds: [][]int{}}, true)
	alike(t, "no choices, places", MDP{Choices: [][]Choice{nil}, Holds: [][]int{nil}}, MDP{Choices: [][]Choice{{}}, Holds: [][]int{{}}}, true)
	alike(t, "no moves", MDP{Choices: [][]Choice{{{Moves: nil}}}}, MDP{Choices: [][]Choice{{{Moves: []Move{}}}}}, true)
	alike(t, "a list without lists", MDP{Holds: [][]int{}}, MDP{Holds: [][]int{nil}}, false)
	alike(t, "a list without lists", MDP{Choices: nil}, MDP{Choices: [][]Choice{{}}}, false)
	a, b := sample(), sample()
	a.Holds[0], b.Holds[0] = nil, []int{}
	alike(t, "of right ones", a, b, true)
	if Check(a) != nil || Check(b) != nil || !slices.Equal(Reach(a), Reach(b)) {
		t.Error("nil and empty places aren't alike for Check, or for Reach")
	}
}

// left: what is handed to the calls stays as it is.
func left(t *testing.T, m MDP, labels []string) {
	t.Helper()
	before, wanted := copied(m), slices.Clone(labels)
	Check(m)
	Reach(m)
	Letters(m, labels)
	Alike(m, before)
	Alike(before, m)
	for _, l := range m.Choices {
		for _, c := range l {
			Support(c)
		}
	}
	if !reflect.DeepEqual(m, before) || !slices.Equal(labels, wanted) {
		t.Errorf("%+v became %+v, %q became %q", before, m, wanted, labels)
	}
}

// R4
func TestWhatIsHandedInStays(t *testing.T) {
	left(t, sample(), []string{"c", "a"})
	left(t, sample(), []string{"x", "a"})
	left(t, sample(), []string{"c", "a", "c"})
	left(t, edited(func(m *MDP) { m.Names = []string{"c", "b", "a", "c"} }), []string{"c", "b"})
	left(t, edited(func(m *MDP) { m.Holds[1] = []int{2, 1, 2}; m.Choices[0] = []Choice{to("", 4, 3, 4, -1, 0)} }), nil)
	left(t, MDP{}, nil)
}

// told: all that the calls tell of a process and labels, as lists.
func told(m MDP, labels []string) [][]int {
	letters, _ := Letters(m, labels)
	l := [][]int{letters, Reach(m)}
	for _, choices := range m.Choices {
		for _, c := range choices {
			l = append(l, Support(c))
		}
	}
	return l
}

// R4, R6
func TestWhatIsToldIsTheCallers(t *testing.T) {
	m, labels := sample(), []string{"b", "c"}
	first := told(m, labels)
	want := told(sample(), labels)
	for _, l := range told(m, labels) {
		for i := range l {
			l[i] = -1
		}
		clear(l[:cap(l)])
	}
	if !reflect.DeepEqual(first, want) || !reflect.DeepEqual(told(m, labels), want) {
		t.Errorf("%v became %v, and %v again; want %v", want, first, told(m, labels), want)
	}
	if !reflect.DeepEqual(m, sample()) {
		t.Errorf("the process became %+v", m)
	}
	for s := range m.Choices {
		for i := range m.Choices[s] {
			clear(m.Choices[s][i].Moves)
		}
		clear(m.Holds[s])
	}
	clear(labels)
	if !reflect.DeepEqual(first, want) {
		t.Errorf("with the process what was told became %v; want %v", first, want)
	}
}
