package mdp

import (
	"cmp"
	"fmt"
	"math"
	"math/rand/v2"
	"slices"
	"strings"
	"testing"

	"sortilege/api"
)

// writer of processes and labels.
type writer struct{ rnd *rand.Rand }

// pool: the names that come up, the empty one among them.
const pool = " a b c d e f g h"

// oneOf some things.
func oneOf[T any](w writer, l ...T) T { return l[w.rnd.IntN(len(l))] }

// some of 0 to n less one, in any order, least of them at least.
func (w writer) some(n, least int) []int {
	return w.rnd.Perm(n)[:least+w.rnd.IntN(n-least+1)]
}

// weight: 1 or more.
func (w writer) weight() int64 {
	return oneOf(w, 1, 2, 3+w.rnd.Int64N(100), math.MaxInt64-w.rnd.Int64N(3))
}

// choice: to some of so many states.
func (w writer) choice(states int) Choice {
	c := Choice{Action: oneOf(w, "", "go", "stay")}
	for _, s := range w.some(states, 1) {
		if len(c.Moves) < 3 {
			c.Moves = append(c.Moves, Move{To: s, Weight: w.weight()})
		}
	}
	return c
}

// process that is right, of so many states and names.
func (w writer) process(states, names int) MDP {
	m := MDP{Init: w.rnd.IntN(states)}
	for _, i := range w.rnd.Perm(9)[:names] {
		m.Names = append(m.Names, strings.Split(pool, " ")[i])
	}
	for range states {
		var l []Choice
		for range oneOf(w, 1, 1, 2, 3) {
			l = append(l, w.choice(states))
		}
		m.Choices = append(m.Choices, l)
		holds := w.some(names, 0)
		slices.Sort(holds)
		m.Holds = append(m.Holds, holds)
	}
	return m
}

// labels: of a process mostly, but for some that it may not have, and some twice.
func (w writer) labels(m MDP) []string {
	var l []string
	for _, i := range w.some(len(m.Names), 0) {
		l = append(l, m.Names[i])
	}
	for w.rnd.IntN(3) == 0 {
		l = append(l, oneOf(w, strings.Split(pool, " ")...))
	}
	w.rnd.Shuffle(len(l), func(i, j int) { l[i], l[j] = l[j], l[i] })
	return l
}

// number: near to those that may be, or far off.
func (w writer) number(n int) int {
	return oneOf(w, w.rnd.IntN(n+3)-1, w.rnd.IntN(n+3)-1, w.rnd.IntN(n+3)-1, oneOf(w, ends...))
}

// insert something into a list, at any place.
func insert[T any](w writer, l []T, x T) []T {
	return slices.Insert(slices.Clone(l), w.rnd.IntN(len(l)+1), x)
}

// drop one of a list.
func drop[T any](w writer, l []T) []T {
	if len(l) == 0 {
		return nil
	}
	i := w.rnd.IntN(len(l))
	return slices.Delete(slices.Clone(l), i, i+1)
}

// turn a list round, two of its items, or leave it.
func turn[T any](w writer, l []T) []T {
	l = slices.Clone(l)
	if len(l) > 1 {
		i, j := w.rnd.IntN(len(l)), w.rnd.IntN(len(l))
		l[i], l[j] = l[j], l[i]
	}
	return l
}

// editMoves of a choice: mostly so that it is another one.
func (w writer) editMoves(c *Choice, states int) {
	switch w.rnd.IntN(6) {
	case 0:
		c.Action = oneOf(w, "", "go", "stay", "a")
	case 1:
		c.Moves = insert(w, c.Moves, Move{To: w.number(states), Weight: w.weight()})
	case 2:
		c.Moves = drop(w, c.Moves)
	case 3:
		c.Moves = turn(w, c.Moves)
	case 4:
		c.Moves[w.rnd.IntN(len(c.Moves))].To = w.number(states)
	default:
		c.Moves[w.rnd.IntN(len(c.Moves))].Weight = oneOf(w, 0, -1, math.MinInt64, w.weight(), w.weight(), w.weight())
	}
}

// edit a process that is right, in other memory: mostly so that it is another one, or
// no right one.
func (w writer) edit(m MDP) MDP {
	m = copied(m)
	s := w.rnd.IntN(len(m.Choices))
	switch w.rnd.IntN(14) {
	case 0:
		m.Init = w.number(len(m.Choices))
	case 1:
		m.Names = insert(w, m.Names, oneOf(w, strings.Split(pool, " ")...))
	case 2:
		m.Names = drop(w, m.Names)
	case 3:
		m.Names = turn(w, m.Names)
	case 4:
		m.Holds[s] = insert(w, m.Holds[s], w.number(len(m.Names)))
	case 5:
		m.Holds[s] = oneOf(w, drop(w, m.Holds[s]), turn(w, m.Holds[s]), []int{}, nil)
	case 6:
		m.Holds = oneOf(w, turn(w, m.Holds), drop(w, m.Holds), insert(w, m.Holds, nil))
	case 7:
		m.Choices = oneOf(w, turn(w, m.Choices), drop(w, m.Choices), insert(w, m.Choices, m.Choices[s]))
	case 8:
		m.Choices[s] = oneOf(w, turn(w, m.Choices[s]), drop(w, m.Choices[s]), insert(w, m.Choices[s], m.Choices[s][0]))
	default:
		w.editMoves(&m.Choices[s][w.rnd.IntN(len(m.Choices[s]))], len(m.Choices))
	}
	return m
}

// reweigh a process, in other memory: other weights, and another order of moves.
func (w writer) reweigh(m MDP) MDP {
	m = copied(m)
	for _, l := range m.Choices {
		for _, c := range l {
			w.rnd.Shuffle(len(c.Moves), func(i, j int) { c.Moves[i], c.Moves[j] = c.Moves[j], c.Moves[i] })
			for i := range c.Moves {
				c.Moves[i].Weight = w.weight()
			}
		}
	}
	return m
}

// rightAgain: a second check, by sets of what was counted.
func rightAgain(m MDP) bool {
	states, names := map[int]int{}, map[string]int{}
	for s := range m.Choices {
		states[s]++
	}
	for _, name := range m.Names {
		names[name]++
	}
	ok := len(states) > 0 && len(states) <= 4096 && states[m.Init] == 1 && len(m.Holds) == len(states) && len(names) == len(m.Names)
	for _, l := range m.Choices {
		ok = ok && len(l) > 0
		for _, c := range l {
			to := map[int]int{}
			for _, v := range c.Moves {
				to[v.To]++
				ok = ok && states[v.To] == 1 && v.Weight > 0
			}
			ok = ok && len(to) > 0 && len(to) == len(c.Moves)
		}
	}
	for _, l := range m.Holds {
		for j, i := range l {
			ok = ok && i >= 0 && i < len(m.Names) && (j == 0 || l[j-1] < i)
		}
	}
	return ok
}

// reachAgain: a second way, by which states come to which through ever more others.
func reachAgain(m MDP) []int {
	n := len(m.Choices)
	ways := make([][]bool, n)
	for s, l := range m.Choices {
		ways[s] = make([]bool, n)
		ways[s][s] = true
		for _, c := range l {
			for _, v := range c.Moves {
				ways[s][v.To] = true
			}
		}
	}
	for by := range n {
		for s := range n {
			for e := range n {
				ways[s][e] = ways[s][e] || ways[s][by] && ways[by][e]
			}
		}
	}
	var l []int
	for e := range n {
		if ways[m.Init][e] {
			l = append(l, e)
		}
	}
	return l
}

// lettersAgain: a second way, label by label.
func lettersAgain(m MDP, labels []string) ([]int, error) {
	l := make([]int, len(m.Choices))
	var err error
	for place, label := range labels {
		if slices.Index(labels, label) != place || len(labels) > 6 {
			return nil, api.ErrArg
		}
		name := slices.Index(m.Names, label)
		if name < 0 {
			err = api.ErrName
		}
		for s := range l {
			if slices.Contains(m.Holds[s], name) {
				l[s] |= 1 << place
			}
		}
	}
	if err != nil {
		return nil, err
	}
	return l, nil
}

// shown: a process as a text, without weights and the order of moves.
func shown(m MDP) string {
	var b strings.Builder
	fmt.Fprintf(&b, "%d %q", m.Init, m.Names)
	for _, l := range m.Holds {
		fmt.Fprint(&b, " ", len(l), l)
	}
	for _, l := range m.Choices {
		fmt.Fprint(&b, "\n")
		for _, c := range l {
			moves := slices.SortedFunc(slices.Values(c.Moves), func(v, u Move) int { return cmp.Compare(v.To, u.To) })
			fmt.Fprintf(&b, " %q:", c.Action)
			for _, v := range moves {
				fmt.Fprint(&b, " ", v.To)
			}
		}
	}
	return b.String()
}

// sameAgain: what the calls tell is what they do in a second way.
func sameAgain(t *testing.T, m MDP, labels []string) (right bool, err error) {
	t.Helper()
	if right = rightAgain(m); !right {
		isWrongFor(t, shown(m), m)
		return false, api.ErrArg
	}
	isRightFor(t, shown(m), m)
	reaches(t, shown(m), m, reachAgain(m)...)
	want, err := lettersAgain(m, labels)
	if err == nil {
		lettersAre(t, shown(m), m, labels, want...)
	} else {
		lettersFail(t, shown(m), m, labels, err.(api.Errno))
	}
	return true, err
}

// P11.1, P11.2
func TestCallsByChance(t *testing.T) {
	w := writer{rand.New(rand.NewPCG(11, 1))}
	rights, letters := 0, map[error]int{}
	for i := range 30000 {
		m := w.process(1+w.rnd.IntN(7), w.rnd.IntN(10))
		if !rightAgain(m) {
			t.Fatalf("%s was to be right", shown(m))
		}
		if i%3 > 0 {
			m = w.edit(m)
		}
		right, err := sameAgain(t, m, w.labels(m))
		if right {
			rights++
			letters[err]++
		}
		if t.Failed() {
			return
		}
	}
	if rights < 10000 || rights > 25000 || letters[nil] < 1000 || letters[api.ErrArg] < 1000 || letters[api.ErrName] < 1000 {
		t.Errorf("%d right ones, letters: %v", rights, letters)
	}
}

// P11.1
func TestReachOfGreatOnesByChance(t *testing.T) {
	w := writer{rand.New(rand.NewPCG(11, 2))}
	some := 0
	for range 300 {
		n := 20 + w.rnd.IntN(60)
		m := ring(n)
		for s := range m.Choices {
			m.Choices[s] = []Choice{to("", w.rnd.IntN(n))}
			for w.rnd.IntN(3) == 0 {
				m.Choices[s] = append(m.Choices[s], to("", w.rnd.IntN(n)))
			}
		}
		m.Init = w.rnd.IntN(n)
		want := reachAgain(m)
		if reaches(t, shown(m), m, want...); len(want) > n/4 && len(want) < n {
			some++
		}
	}
	if some < 50 {
		t.Errorf("only %d come to some states", some)
	}
}

// P11.1
func TestSupportByChance(t *testing.T) {
	w := writer{rand.New(rand.NewPCG(11, 3))}
	for range 3000 {
		var c Choice
		for range w.rnd.IntN(30) {
			c.Moves = append(c.Moves, Move{To: w.number(10), Weight: oneOf(w, 0, 1, w.weight())})
		}
		l := Support(c)
		for i, s := range l {
			if i > 0 && l[i-1] >= s || !slices.ContainsFunc(c.Moves, func(v Move) bool { return v.To == s }) {
				t.Errorf("Support of %v: %v", c.Moves, l)
			}
		}
		for _, v := range c.Moves {
			if !slices.Contains(l, v.To) {
				t.Errorf("Support of %v: %v", c.Moves, l)
			}
		}
	}
}

// P11.3
func TestAlikeByChance(t *testing.T) {
	w := writer{rand.New(rand.NewPCG(11, 4))}
	counts := map[bool]int{}
	for range 20000 {
		a := w.process(1+w.rnd.IntN(5), w.rnd.IntN(5))
		b := w.reweigh(a)
		alike(t, "weighed anew: "+shown(a), a, b, true)
		if w.rnd.IntN(2) == 0 {
			a = b
		}
		b = w.edit(a)
		same := shown(a) == shown(b)
		alike(t, shown(a)+"\nand\n"+shown(b), a, b, same)
		if counts[same]++; t.Failed() {
			return
		}
	}
	if counts[true] < 3000 || counts[false] < 3000 {
		t.Errorf("alike: %v", counts)
	}
}

// follows: of two processes that are alike as much is told.
func follows(t *testing.T, a, b MDP, labels []string) {
	t.Helper()
	if x, y := Check(a), Check(b); x != nil || y != nil {
		t.Errorf("%s: Check: %v, %v", shown(a), x, y)
	}
	if x, y := Reach(a), Reach(b); !slices.Equal(x, y) || len(x) == 0 {
		t.Errorf("%s: Reach: %v, %v", shown(a), x, y)
	}
	x, xe := Letters(a, labels)
	y, ye := Letters(b, labels)
	if !slices.Equal(x, y) || xe != ye || xe == nil && len(x) != len(a.Choices) {
		t.Errorf("%s: Letters of %q: %v, %v; %v, %v", shown(a), labels, x, xe, y, ye)
	}
}

// P11.4
func TestWhatIsAlikeComesToTheSame(t *testing.T) {
	w := writer{rand.New(rand.NewPCG(11, 5))}
	for range 10000 {
		a := w.process(1+w.rnd.IntN(8), w.rnd.IntN(9))
		b := w.reweigh(a)
		if !Alike(a, b) {
			t.Fatalf("not alike: %s", shown(a))
		}
		if follows(t, a, b, w.labels(a)); t.Failed() {
			return
		}
	}
}

// P11.4: of small processes, of which many are alike by chance.
func TestWhatAlikeHoldsForAlikeComesToTheSame(t *testing.T) {
	w := writer{rand.New(rand.NewPCG(11, 6))}
	pairs := 0
	for range 200 {
		var l []MDP
		for range 40 {
			m := w.process(1+w.rnd.IntN(2), w.rnd.IntN(2))
			for _, choices := range m.Choices {
				for i := range choices {
					choices[i].Action = ""
				}
			}
			l = append(l, m)
		}
		for i, a := range l {
			for _, b := range l[:i] {
				if Alike(a, b) {
					pairs++
					follows(t, a, b, w.labels(a))
				}
			}
		}
		if t.Failed() {
			return
		}
	}
	if pairs < 100 {
		t.Errorf("only %d pairs are alike", pairs)
	}
}
