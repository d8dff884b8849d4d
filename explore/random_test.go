package explore

import (
	"math/rand/v2"
	"reflect"
	"slices"
	"strconv"
	"strings"
	"testing"

	"sortilege/api"
	"sortilege/check"
	"sortilege/mdp"
	"sortilege/step"
)

// graph is what a text is written of: nodes, which are states by other numbers.
type graph struct {
	first   int
	states  [][]int32 // of each node
	arrows  []arrow   // in the order of the text
	actions []string  // none, and then in the order in which they come first
	names   []string  // of labels
	marks   [][]int   // of each node which labels hold
	spoilt  []int     // of each node the place of its first label's error, or 0
}

// arrow is a way of a node.
type arrow struct {
	from    int
	action  string
	to      []int
	weights []int64
	pos     int // of a setting that leaves its range, or 0
}

// writer writes models by chance.
type writer struct {
	rnd   *rand.Rand
	slips int // of how many pieces one is wrong; none if 0
	text  string
}

// oneOf some things.
func oneOf[T any](w *writer, l ...T) T { return l[w.rnd.IntN(len(l))] }

// slip: is this piece wrong?
func (w *writer) slip() bool { return w.slips > 0 && w.rnd.IntN(w.slips) == 0 }

// write some pieces of text.
func (w *writer) write(l ...string) { w.text += strings.Join(l, "") }

// digit is a variable, of which a node's number is made.
type digit struct {
	name  string
	bool  bool
	low   int
	count int
}

// digits: the first one is a number. All that the nodes may be is below 64.
func (w *writer) digits() []digit {
	l := []digit{{"x", false, w.rnd.IntN(7) - 4, 2 + w.rnd.IntN(7)}}
	for _, name := range []string{"b", "y"}[:w.rnd.IntN(3)] {
		if w.rnd.IntN(2) == 0 {
			l = append(l, digit{name, true, 0, 2})
			continue
		}
		l = append(l, digit{name, false, w.rnd.IntN(3) - 1, 1 + w.rnd.IntN(2)})
	}
	return l
}

// statesOf: all that the digits may be.
func statesOf(l []digit) [][]int32 {
	all := [][]int32{nil}
	for _, d := range l {
		var next [][]int32
		for _, state := range all {
			for i := range d.count {
				next = append(next, append(slices.Clone(state), int32(d.low+i)))
			}
		}
		all = next
	}
	return all
}

// word: a number of a digit.
func (d digit) word(n int32) string {
	if d.bool {
		return []string{"false", "true"}[n]
	}
	return strconv.Itoa(int(n))
}

// is: the condition that it is this state.
func is(l []digit, state []int32) string {
	var words []string
	for i, d := range l {
		words = append(words, d.name+" = "+d.word(state[i]))
	}
	return strings.Join(words, " & ")
}

// becomes: the settings by which it becomes this state.
func becomes(l []digit, state []int32) string {
	var words []string
	for i, d := range l {
		words = append(words, "("+d.name+"' = "+d.word(state[i])+")")
	}
	return strings.Join(words, " & ")
}

// graph of a model, and its text.
func (w *writer) graph() graph {
	l := w.digits()
	g := graph{states: statesOf(l), actions: []string{""}}
	g.first = w.rnd.IntN(len(g.states))
	g.marks, g.spoilt = make([][]int, len(g.states)), make([]int, len(g.states))
	w.text = "mdp "
	for i := range w.rnd.IntN(4) {
		w.label(&g, l, "l"+strconv.Itoa((i*7+3)%10))
	}
	w.write("module m ")
	for i, d := range l {
		kind := "bool"
		if !d.bool {
			kind = "[" + strconv.Itoa(d.low) + ".." + strconv.Itoa(d.low+d.count-1) + "]"
		}
		w.write(d.name, " : ", kind, " init ", d.word(g.states[g.first][i]), "; ")
	}
	for _, from := range w.froms(len(g.states)) {
		w.arrow(&g, l, from)
	}
	w.write("endmodule")
	return g
}

// label: holds of some states, and is wrong in some.
func (w *writer) label(g *graph, l []digit, name string) {
	w.write("label \"", name, "\" = false")
	for i, state := range g.states {
		switch {
		case w.slip():
			w.write(" | ", is(l, state), " & ")
			if g.spoilt[i] == 0 {
				g.spoilt[i] = len(w.text)
			}
			w.write(over, " > 0")
		case w.rnd.IntN(3) == 0:
			w.write(" | ", is(l, state))
			g.marks[i] = append(g.marks[i], len(g.names))
		}
	}
	w.write("; ")
	g.names = append(g.names, name)
}

// froms: from where arrows go, mostly from each node.
func (w *writer) froms(nodes int) []int {
	l := w.rnd.Perm(nodes)
	if w.slips > 0 && w.rnd.IntN(4) == 0 {
		l = l[:w.rnd.IntN(nodes)]
	}
	for range w.rnd.IntN(nodes) {
		l = append(l, w.rnd.IntN(nodes))
	}
	w.rnd.Shuffle(len(l), func(i, k int) { l[i], l[k] = l[k], l[i] })
	return l
}

// arrow from a node.
func (w *writer) arrow(g *graph, l []digit, from int) {
	a := arrow{from: from, action: oneOf(w, "", "", "go", "up", "on")}
	if !slices.Contains(g.actions, a.action) {
		g.actions = append(g.actions, a.action)
	}
	w.write("[", a.action, "] ", is(l, g.states[from]), " -> ")
	for i := range oneOf(w, 1, 1, 1, 2, 2, 3) {
		if i > 0 {
			w.write(" + ")
		}
		weight := 1 + w.rnd.Int64N(20)
		w.write(strconv.FormatInt(weight, 10), " : ")
		if a.pos == 0 && w.slip() {
			w.write("(x' = ")
			a.pos = len(w.text)
			w.write("99)")
			continue
		}
		to := w.rnd.IntN(len(g.states))
		w.write(becomes(l, g.states[to]))
		if at := slices.Index(a.to, to); at >= 0 {
			a.weights[at] += weight
			continue
		}
		a.to, a.weights = append(a.to, to), append(a.weights, weight)
	}
	w.write("; ")
	g.arrows = append(g.arrows, a)
}

// leaving: the arrows of a node, in the order of its ways.
func (g graph) leaving(node int) []arrow {
	var l []arrow
	for _, action := range g.actions {
		for _, a := range g.arrows {
			if a.from == node && a.action == action {
				l = append(l, a)
			}
		}
	}
	return l
}

// fault is an error and its place, or -1.
type fault struct {
	errno api.Errno
	pos   int
}

// faultOf: what is wrong with a node, if something is.
func (g graph) faultOf(node int, l []arrow) *fault {
	if g.spoilt[node] > 0 {
		return &fault{api.ErrOver, g.spoilt[node]}
	}
	for _, a := range l {
		if a.pos > 0 {
			return &fault{api.ErrRange, a.pos}
		}
	}
	if len(l) == 0 {
		return &fault{api.ErrDead, -1}
	}
	return nil
}

// all: the nodes as states, found with a limit; or what is wrong.
func (g graph) all(limit int) (mdp.MDP, [][]int32, *fault) {
	m := mdp.MDP{Names: g.names}
	order := []int{g.first} // nodes by their states' numbers
	var states [][]int32
	for i := 0; i < len(order); i++ {
		node := order[i]
		l := g.leaving(node)
		if f := g.faultOf(node, l); f != nil {
			return mdp.MDP{}, nil, f
		}
		var choices []mdp.Choice
		for _, a := range l {
			c := mdp.Choice{Action: a.action}
			for k, to := range a.to {
				at := slices.Index(order, to)
				if at < 0 {
					at = len(order)
					order = append(order, to)
				}
				c.Moves = append(c.Moves, mdp.Move{To: at, Weight: a.weights[k]})
			}
			choices = append(choices, c)
		}
		if len(order) > limit {
			return mdp.MDP{}, nil, &fault{api.ErrStates, -1}
		}
		m.Choices = append(m.Choices, choices)
		m.Holds = append(m.Holds, g.marks[node])
		states = append(states, g.states[node])
	}
	return m, states, nil
}

// isAsTheGraph: is what All and Text tell of a text what its graph tells? What was
// wrong is told.
func isAsTheGraph(t *testing.T, text string, g graph, limit int) api.Errno {
	t.Helper()
	want, wantStates, flt := g.all(limit)
	m, states, err := All(laid(t, text), limit)
	again, textErr := Text(text, api.Limits{States: limit, Depth: 9})
	if flt != nil {
		if !isError(err, flt.errno, flt.pos) || !reflect.DeepEqual(m, want) || len(states) != 0 || !isError(textErr, flt.errno, flt.pos) || !reflect.DeepEqual(again, want) {
			t.Fatalf("All(%s, %d): %v and %v; want %+v", text, limit, err, textErr, *flt)
		}
		return flt.errno
	}
	if err != nil || !isWhole(m, states) || tell(m, states) != tell(want, wantStates) || !slices.Equal(m.Names, want.Names) {
		t.Fatalf("All(%s, %d):\n%s, %v; want\n%s", text, limit, tell(m, states), err, tell(want, wantStates))
	}
	if textErr != nil || !reflect.DeepEqual(again, m) {
		t.Fatalf("Text(%s, %d): %+v, %v; want %+v", text, limit, again, textErr, m)
	}
	return 0
}

// P13.1, P13.2, beside the graphs of which the texts are written.
func TestGraphsByChance(t *testing.T) {
	seen := map[api.Errno]int{}
	sizes := 0
	for i := range 2400 {
		w := &writer{rnd: rand.New(rand.NewPCG(13, uint64(i))), slips: []int{0, 300, 60, 20}[i%4]}
		g := w.graph()
		for _, limit := range []int{api.MaxNodes, 1 + w.rnd.IntN(len(g.states)+1)} {
			seen[isAsTheGraph(t, w.text, g, limit)]++
		}
		if _, states, flt := g.all(api.MaxNodes); flt == nil {
			sizes += len(states)
			isAsTheGraph(t, w.text, g, len(states))
			if len(states) > 1 {
				isAsTheGraph(t, w.text, g, len(states)-1)
			}
		}
	}
	for errno, least := range map[api.Errno]int{0: 1000, api.ErrDead: 150, api.ErrStates: 500, api.ErrOver: 300, api.ErrRange: 300} {
		if seen[errno] < least {
			t.Errorf("%d came %d times", errno, seen[errno])
		}
	}
	if sizes < 5000 {
		t.Errorf("only %d states", sizes)
	}
}

// module: a variable, and commands which leave its range by slips alone.
func (w *writer) module(name string, others []string) {
	v := "v" + name
	w.write("module m", name, " ", v, " : [0..2] init ", strconv.Itoa(w.rnd.IntN(3)), "; ")
	for range w.rnd.IntN(5) {
		guard := oneOf(w, others...) + oneOf(w, " = ", " != ", " < ", " >= ") + strconv.Itoa(w.rnd.IntN(3))
		w.write("[", oneOf(w, "", "a", "b"), "] ", oneOf(w, "true", guard), " -> ")
		for i := range oneOf(w, 1, 2, 3) {
			w.write([]string{"", " + "}[min(i, 1)], oneOf(w, "", "2 : ", "3 : "))
			if w.slip() {
				w.write("(", v, "' = ", v, " + 1)")
				continue
			}
			w.write(oneOf(w, "true", "("+v+"' = "+strconv.Itoa(w.rnd.IntN(3))+")", "("+v+"' = "+v+" < 2 ? "+v+" + 1 : 0)"))
		}
		w.write("; ")
	}
	w.write("endmodule ")
}

// modules that go together.
func (w *writer) modules() {
	w.text = "mdp "
	names := []string{"a", "b", "c"}[:1+w.rnd.IntN(3)]
	var vars []string
	for _, name := range names {
		vars = append(vars, "v"+name)
	}
	for _, name := range names {
		w.module(name, vars)
	}
	w.write("module wait [] true -> true; endmodule ")
	for i := range w.rnd.IntN(3) {
		w.write("label \"", strconv.Itoa(i), "\" = ", oneOf(w, vars...), " < ", oneOf(w, vars...), " | ", oneOf(w, vars...), " = 2; ")
	}
}

// sameWays: are a state's choices its ways?
func sameWays(choices []mdp.Choice, ways []step.Way, states [][]int32) bool {
	return slices.EqualFunc(choices, ways, func(c mdp.Choice, w step.Way) bool {
		return c.Action == w.Action && slices.EqualFunc(c.Moves, w.Next, func(v mdp.Move, n step.Next) bool {
			return v.Weight == n.Weight && slices.Equal(states[v.To], n.State)
		})
	})
}

// follows: are the states just those that can be come to, in the order in which they
// are found, and the process what step tells of them?
func follows(f check.Flat, m mdp.MDP, states [][]int32) bool {
	if !isWhole(m, states) || !slices.Equal(states[0], step.First(f)) {
		return false
	}
	next := 1
	for i, state := range states {
		ways, err := step.Ways(f, state)
		holds, holdErr := step.Holds(f, state)
		if err != nil || holdErr != nil || !slices.Equal(m.Holds[i], holds) || !sameWays(m.Choices[i], ways, states) {
			return false
		}
		for _, c := range m.Choices[i] {
			for _, v := range c.Moves {
				if v.To > next {
					return false
				}
				next = max(next, v.To+1)
			}
		}
	}
	return next == len(states)
}

// differ: is no state there twice?
func differ(states [][]int32) bool {
	l := slices.Clone(states)
	slices.SortFunc(l, slices.Compare[[]int32])
	return len(slices.CompactFunc(l, slices.Equal[[]int32])) == len(states)
}

// P13.3
func TestProcessesAreRight(t *testing.T) {
	whole, greatest := 0, 0
	for i := range 3000 {
		w := &writer{rnd: rand.New(rand.NewPCG(133, uint64(i))), slips: []int{0, 100, 30}[i%3]}
		w.modules()
		f := laid(t, w.text)
		m, states, err := All(f, 27)
		if err != nil {
			if w.slips == 0 {
				t.Errorf("All(%s): %v", w.text, err)
			}
			continue
		}
		if !follows(f, m, states) || !differ(states) {
			t.Errorf("All(%s):\n%s", w.text, tell(m, states))
		}
		whole, greatest = whole+1, max(greatest, len(states))
	}
	if whole < 1500 || greatest < 27 {
		t.Errorf("%d were whole, the greatest of %d states", whole, greatest)
	}
}

// P13.3, T5: models that differ in weights alone have processes that are alike, with
// the same states.
func TestWeightsAlone(t *testing.T) {
	for i := range 300 {
		w := &writer{rnd: rand.New(rand.NewPCG(135, uint64(i)))}
		w.modules()
		m, states, err := All(laid(t, w.text), 27)
		other, otherStates, otherErr := All(laid(t, strings.NewReplacer("2 : ", "17 : ", "3 : ", "").Replace(w.text)), 27)
		if err != nil || otherErr != nil || !mdp.Alike(m, other) || !reflect.DeepEqual(states, otherStates) {
			t.Errorf("%s:\n%s, %v; with other weights\n%s, %v", w.text, tell(m, states), err, tell(other, otherStates), otherErr)
		}
	}
}
