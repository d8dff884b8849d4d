package gba

import (
	"errors"
	"math"
	"reflect"
	"slices"
	"strconv"
	"strings"
	"testing"

	"sortilege/api"
	"sortilege/nnf"
	"sortilege/prop"
)

// ends of the numbers.
var ends = []int{math.MinInt, math.MinInt32, -4096, -1, 4097, math.MaxInt32, math.MaxInt}

// of: a formula without a place.
func of(op string, kids ...prop.Formula) prop.Formula {
	return prop.Formula{Op: op, Kids: kids}
}

// label of a name.
func label(s string) prop.Formula { return prop.Formula{Op: "label", Name: s} }

// Some formulas, for short.
var (
	yes = of("true")
	no  = of("false")
	a   = label("a")
	b   = label("b")
)

// read a formula, in which labels stand as 'a rather than in their signs, and make it
// normal.
func read(t *testing.T, s string) prop.Formula {
	t.Helper()
	for _, name := range []string{"a", "b", "c", "d", "e", "f"} {
		s = strings.ReplaceAll(s, "'"+name, `"`+name+`"`)
	}
	f, err := prop.Parse(s, 64)
	if err != nil {
		t.Fatalf("%s: %v", s, err)
	}
	f, err = nnf.Normal(f, false)
	if err != nil {
		t.Fatalf("%s: %v", s, err)
	}
	return f
}

// short: a formula as it may be shown.
func short(f prop.Formula) string {
	if prop.Size(f) > 400 {
		return "a long formula that begins with " + f.Op
	}
	return prop.Print(f)
}

// built: the automaton of a formula, of which not too many nodes come up; it is right.
func built(t *testing.T, f prop.Formula, names []string) GBA {
	t.Helper()
	g, err := Build(f, names, 4096)
	if err != nil {
		t.Fatalf("Build of %s: %v", short(f), err)
	}
	if err := Check(g); err != nil || g.Props != len(names) {
		t.Fatalf("Build of %s isn't right: %+v", short(f), g)
	}
	return g
}

// isLimited: there are so many nodes with all limits that are great enough, and an error
// with all others.
func isLimited(t *testing.T, f prop.Formula, names []string, nodes int) {
	t.Helper()
	want := built(t, f, names)
	if len(want.Nodes) != nodes {
		t.Errorf("Build of %s: %d nodes, not %d: %+v", short(f), len(want.Nodes), nodes, want)
	}
	for _, limit := range []int{1, 2, nodes / 2, nodes - 2, nodes - 1, nodes, nodes + 1, 2 * nodes, 4095, 4096} {
		if limit < 1 || limit > 4096 {
			continue
		}
		if limit < nodes {
			fails(t, f, names, limit, api.ErrAuto)
		} else if g, err := Build(f, names, limit); err != nil || !reflect.DeepEqual(g, want) {
			t.Errorf("Build of %s, limit %d: %+v, %v", short(f), limit, g, err)
		}
	}
}

// fails: nothing is told but an error.
func fails(t *testing.T, f prop.Formula, names []string, limit int, errno api.Errno) {
	t.Helper()
	g, err := Build(f, names, limit)
	if !reflect.DeepEqual(g, GBA{}) || err != error(errno) || !errors.Is(err, errno) {
		t.Errorf("Build of %s, names %q, limit %d: %+v, %v; want %d", short(f), names, limit, g, err, errno)
	}
}

// chain: of so many Formulas, with X ahead of some formula of one.
func chain(n int, f prop.Formula) prop.Formula {
	for range n - 1 {
		f = of("X", f)
	}
	return f
}

// joined by an Op, from the left or from the right on.
func joined(op string, toTheRight bool, l []prop.Formula) prop.Formula {
	l = slices.Clone(l)
	if toTheRight {
		slices.Reverse(l)
	}
	f := l[0]
	for _, g := range l[1:] {
		if toTheRight {
			f = of(op, g, f)
		} else {
			f = of(op, f, g)
		}
	}
	return f
}

// P16.1
func TestTheChaptersExample(t *testing.T) {
	g := built(t, yes, nil)
	if want := (GBA{Nodes: []Node{{Next: []int{1}}, {Next: []int{1}}}, Init: []int{0}, Sets: [][]int{}}); !reflect.DeepEqual(g, want) {
		t.Errorf("Build of true: %+v", g)
	}
	isLimited(t, yes, []string{"a"}, 2)
}

// row of a table: a formula, how many nodes come up of it, with how many of them it
// begins, and how many sets there are.
type row struct {
	f                 string
	nodes, init, sets int
}

// P16.1
func TestNodesThatComeUp(t *testing.T) {
	for _, r := range []row{
		{"true", 2, 1, 0}, {"false", 0, 0, 0}, {"'a", 2, 1, 0}, {"!'a", 2, 1, 0},
		{"'a & 'b", 2, 1, 0}, {"'a & 'a", 2, 1, 0}, {"'a & !'a", 0, 0, 0}, {"'a & false", 0, 0, 0}, {"true & true", 2, 1, 0}, {"'a & !'b & 'c", 2, 1, 0}, {"'a & 'b & !'a", 0, 0, 0}, {"!'b & ('a & 'b)", 0, 0, 0},
		{"'a | 'b", 3, 2, 0}, {"'a | 'a", 2, 1, 0}, {"'a | !'a", 3, 2, 0}, {"'a | false", 2, 1, 0}, {"false | 'a", 2, 1, 0}, {"false | false", 0, 0, 0}, {"'a | 'b | 'c", 4, 3, 0}, {"('a | 'b) & ('a | 'b)", 3, 2, 0}, {"('a | 'b) & ('b | 'a)", 4, 3, 0}, {"('a | 'b) & !'a", 2, 1, 0}, {"('a | 'b) & 'a", 3, 2, 0}, {"('a | 'b) & (!'a | !'b)", 3, 2, 0},
		{"X 'a", 3, 1, 0}, {"X true", 3, 1, 0}, {"X X 'a", 4, 1, 0}, {"X false", 1, 1, 0}, {"X ('a & !'a)", 1, 1, 0}, {"X 'a & X 'b", 3, 1, 0}, {"X 'a | X 'b", 5, 2, 0}, {"X 'a & X !'a", 1, 1, 0}, {"'a & X X X false", 3, 1, 0},
		// f U g: g, or f and X of it; f R g: g and f, or g and X of it.
		{"'a U 'b", 3, 2, 1}, {"F 'a", 3, 2, 1}, {"'a U 'a", 3, 2, 1}, {"'a U false", 1, 1, 1}, {"false U 'a", 2, 1, 1}, {"'a U true", 3, 2, 1}, {"true U true", 3, 2, 1}, {"'a U !'a", 3, 2, 1}, {"false U false", 0, 0, 1},
		{"'a R 'b", 3, 2, 0}, {"G 'a", 1, 1, 0}, {"'a R false", 0, 0, 0}, {"'a R true", 3, 2, 0}, {"true R 'a", 3, 2, 0}, {"'a R 'a", 3, 2, 0}, {"'a R !'a", 1, 1, 0}, {"'a W 'b", 5, 4, 0},
		{"G F 'a", 2, 2, 1}, {"F G 'a", 3, 2, 1}, {"F F 'a", 6, 3, 2}, {"G G 'a", 1, 1, 0}, {"G F 'a & G F 'b", 8, 4, 2}, {"F 'a & F 'a", 5, 2, 1}, {"F 'a & F 'b", 13, 4, 2}, {"F 'a | F 'a", 5, 2, 1},
		// Of alike ones one set, however often they come.
		{"('a U 'b) & X ('a U 'b)", 5, 2, 1}, {"('a U 'b) & ('b U 'a)", 13, 4, 2}, {"('a U 'b) U ('a U 'b)", 7, 4, 2}, {"('a U 'b) R ('a U 'b)", 7, 4, 1},
		// X of it is looked at, too: so it may be that which was to be looked at beside it.
		{"('a U 'b) & (X ('a U 'b) | 'a)", 6, 3, 1}, {"G (X G 'a | 'a)", 3, 2, 0},
	} {
		f, names := read(t, r.f), []string{"a", "b", "c"}
		isLimited(t, f, names, r.nodes)
		g := built(t, f, names)
		if len(g.Init) != r.init || len(g.Sets) != r.sets {
			t.Errorf("Build of %s: %d initial nodes and %d sets, not %d and %d: %+v", r.f, len(g.Init), len(g.Sets), r.init, r.sets, g)
		}
	}
}

// P16.1: what must hold and what must not, what may come next, and the sets, where the
// words leave one automaton alone.
func TestWhatIsBuilt(t *testing.T) {
	end := Node{Next: []int{1}}
	for s, want := range map[string]GBA{
		"false":              {},
		"'a":                 {Nodes: []Node{{Need: 1, Next: []int{1}}, end}, Init: []int{0}},
		"!'b":                {Nodes: []Node{{Forbid: 2, Next: []int{1}}, end}, Init: []int{0}},
		"'c & !'a & ('b)":    {Nodes: []Node{{Need: 6, Forbid: 1, Next: []int{1}}, end}, Init: []int{0}},
		"X !'c":              {Nodes: []Node{{Next: []int{1}}, {Forbid: 4, Next: []int{2}}, {Next: []int{2}}}, Init: []int{0}},
		"'b & X false":       {Nodes: []Node{{Need: 2}}, Init: []int{0}},
		"G !'a":              {Nodes: []Node{{Forbid: 1, Next: []int{0}}}, Init: []int{0}},
		"G ('a & !'b)":       {Nodes: []Node{{Need: 1, Forbid: 2, Next: []int{0}}}, Init: []int{0}},
		"'a U false":         {Nodes: []Node{{Need: 1, Next: []int{0}}}, Init: []int{0}, Sets: [][]int{{}}},
		"false U 'a":         {Nodes: []Node{{Need: 1, Next: []int{1}}, end}, Init: []int{0}, Sets: [][]int{{0, 1}}},
		"X ('a & !'a) U 'b":  {Nodes: []Node{{Need: 2, Next: []int{2}}, {}, {Next: []int{2}}}, Init: []int{0, 1}, Sets: [][]int{{0, 2}}},
		"('a & !'a) U false": {Sets: [][]int{nil}},
	} {
		want.Props = 3
		g := built(t, read(t, s), []string{"a", "b", "c"})
		if !alike(g, want) {
			t.Errorf("Build of %s: %+v, want %+v", s, g, want)
		}
	}
}

// P16.1: a node is of a set unless it has the U as an OLD one without its right side.
func TestSets(t *testing.T) {
	g := built(t, read(t, "'a U 'b"), []string{"a", "b"})
	in, out := 0, 0
	for i, n := range g.Nodes {
		switch is := slices.Contains(g.Sets[0], i); {
		case n.Need == 1 && !is:
			out++
		case n.Need != 1 && is:
			in++
		}
	}
	if in != 2 || out != 1 {
		t.Errorf("Build of a U b: %+v", g)
	}
	// Where the right side is looked at for something else, the node is of the set, too.
	if g := built(t, read(t, "G 'a & (true U 'a)"), []string{"a"}); len(g.Sets) != 1 || len(g.Sets[0]) != len(g.Nodes) {
		t.Errorf("Build of G a & F a: %+v", g)
	}
	if g := built(t, read(t, "F 'a & F 'b & F 'c & F 'a & G F 'b"), []string{"a", "b", "c"}); len(g.Sets) != 3 {
		t.Errorf("Build of three U: %+v", g)
	}
}

// P16.1
func TestPlacesOfNames(t *testing.T) {
	f := of("&", label("x"), of("!", label("y")))
	for _, names := range [][]string{{"x", "y"}, {"y", "x"}, {"", "y", "z", "x"}, {"1", "2", "3", "4", "y", "x"}, {"x", "2", "3", "4", "5", "y"}} {
		g := built(t, f, names)
		if n := g.Nodes[g.Init[0]]; n.Need != 1<<slices.Index(names, "x") || n.Forbid != 1<<slices.Index(names, "y") {
			t.Errorf("Build over %q: %+v", names, g)
		}
		fails(t, f, append(slices.Clone(names)[:1], "z1"), 9, api.ErrName)
	}
	for _, name := range []string{"", " ", "a b", "true", "X", "\xff", "a\x00", `"`, strings.Repeat("long", 9999)} {
		if g := built(t, of("X", label(name)), []string{name + "!", name}); len(g.Nodes) != 3 {
			t.Errorf("Build of a label %q: %+v", name[:1], g)
		}
		fails(t, of("X", label(name)), []string{name + "!"}, 9, api.ErrName)
	}
	// A name and a place count of labels alone.
	f = prop.Formula{Op: "&", Name: "q", Pos: 3, Kids: []prop.Formula{{Op: "U", Name: "v", Kids: []prop.Formula{{Op: "true", Name: "w"}, a}}, {Op: "U", Pos: 7, Kids: []prop.Formula{yes, {Op: "label", Name: "a", Pos: 9}}}}}
	if g := built(t, f, []string{"a"}); !reflect.DeepEqual(g, built(t, read(t, "F 'a & F 'a"), []string{"a"})) {
		t.Errorf("Build of %s: %+v", short(f), g)
	}
}

// P16.1
func TestArgumentsOfBuild(t *testing.T) {
	six := []string{"a", "b", "c", "d", "e", "f"}
	for _, f := range []prop.Formula{yes, no, a, label("x"), {}} {
		for _, limit := range append(slices.Clone(ends), 0) {
			fails(t, f, six, limit, api.ErrArg)
		}
		for _, names := range [][]string{{"a", "a"}, {"a", "b", "c", "d", "e", "a"}, {"b", "b", "a"}, {"", ""}, append(slices.Clone(six), "g"), make([]string, 7), make([]string, 99999)} {
			fails(t, f, names, 9, api.ErrArg)
		}
	}
	for limit := 2; limit <= 4096; limit += 409 {
		if g, err := Build(a, six, limit); err != nil || g.Props != 6 {
			t.Errorf("Build, limit %d: %+v, %v", limit, g, err)
		}
	}
	if g, err := Build(no, nil, 1); err != nil || !alike(g, GBA{}) {
		t.Errorf("Build of false: %+v, %v", g, err)
	}
}

// P16.1
func TestFormulasThatAreNotNormal(t *testing.T) {
	deep := chain(3000, of("F", a))
	for _, f := range []prop.Formula{{}, of("F", a), of("G", a), of("=>", a, b), of("W", a, b), of("!", yes), of("!", of("!", a)), of("!", of("X", a)), of("not", a), of("true", a), of("label", a), of("!"), of("!", a, a), of("X"), of("X", a, a), of("&", a), of("|"), of("U", a, a, a), of("R", a), of("x"), deep} {
		for _, g := range []prop.Formula{f, of("X", f), of("&", no, f), of("|", f, yes), of("U", of("R", a, of("X", f)), b), of("R", label("x"), f)} {
			fails(t, g, []string{"a", "b"}, 4096, api.ErrArg)
			fails(t, g, nil, 1, api.ErrArg)
		}
	}
	// One that is within itself, though that is no tree.
	kids := make([]prop.Formula, 2)
	for _, op := range []string{"X", "&", "U"} {
		kids[0], kids[1] = of(op, kids[:2]...), a
		if op == "X" {
			kids[0].Kids = kids[:1]
		}
		fails(t, kids[0], []string{"a"}, 9, api.ErrArg)
	}
}

// P16.1
func TestLabelsThatAreNoNames(t *testing.T) {
	for _, names := range [][]string{nil, {}, {"b"}, {"A"}, {"a "}, {"b", "c", "d", "e", "f", "g"}} {
		for _, f := range []prop.Formula{a, of("!", a), of("X", a), of("|", yes, a), of("&", no, a), of("U", a, no), of("R", no, of("X", of("!", a))), chain(4096, a)} {
			fails(t, f, names, 1, api.ErrName)
			fails(t, f, names, 4096, api.ErrName)
		}
	}
}

// P16.1: of 4096 Formulas, and of one more.
func TestLongFormulas(t *testing.T) {
	names := []string{"a", "b"}
	isLimited(t, chain(4095, a), names, 4096)
	fails(t, chain(4096, a), names, 4096, api.ErrAuto)
	fails(t, chain(4097, a), names, 4096, api.ErrArg)
	fails(t, chain(5000, label("x")), names, 4096, api.ErrArg)
	many := slices.Repeat([]prop.Formula{a, b}, 1024)
	for _, toTheRight := range []bool{false, true} {
		isLimited(t, of("X", joined("&", toTheRight, many)), names, 3)
		fails(t, of("X", of("X", joined("&", toTheRight, many))), names, 4096, api.ErrArg)
		// Each of the sides may be the one that holds.
		isLimited(t, of("X", joined("|", toTheRight, many)), names, 2048+2)
		for _, op := range []string{"U", "R"} {
			fails(t, of("X", joined(op, toTheRight, many)), names, 4096, api.ErrAuto)
			fails(t, of("X", of("X", joined(op, toTheRight, many))), names, 4096, api.ErrArg)
		}
	}
}

// R1: formulas of which a few nodes come up, or too many, in more ways than can be gone
// through one by one.
func TestMoreWaysThanCanBeWaitedFor(t *testing.T) {
	names := []string{"a", "b", "c", "d", "e", "f"}
	var two, three, sides, either, wide []prop.Formula
	for i, x := range names {
		for _, y := range names[i+1:] {
			two = append(two, of("|", label(x), label(y)), of("|", label(y), label(x)))
			for _, z := range names {
				three = append(three, of("|", of("|", label(x), label(y)), label(z)))
			}
		}
	}
	for i := range 30 {
		x, y := chain(i+2, a), chain(i+2, b)
		sides = append(sides, x, y)
		either = append(either, of("|", x, y))
	}
	for i := range 250 {
		wide = append(wide, of("|", label(names[i%6]), of("X", of("U", label(names[i%5]), label(names[i%4])))))
	}
	for _, toTheRight := range []bool{false, true} {
		// Of each two names one holds at least: all of them, or all but one.
		isLimited(t, joined("&", toTheRight, two), names, 7+1)
		isLimited(t, joined("&", toTheRight, append(slices.Clone(two), of("!", a))), names, 1+1)
		isLimited(t, joined("&", toTheRight, append(slices.Clone(two), of("!", a), of("!", b))), names, 0)
		isLimited(t, of("&", joined("&", toTheRight, two), of("X", no)), names, 7)
		fails(t, joined("&", toTheRight, three), names, 4096, api.ErrAuto)
		// Where there are many ways, and each one comes to an end.
		isLimited(t, of("&", joined("&", toTheRight, wide[:60]), of("|", no, of("&", a, of("!", a)))), names, 0)
		fails(t, joined("&", toTheRight, wide), names, 4096, api.ErrAuto)
		// Both sides of each are looked at anyway, by one way or by the other.
		both, other := joined("&", toTheRight, sides), joined("&", !toTheRight, sides)
		isLimited(t, of("&", both, joined("&", toTheRight, either)), names, 32)
		isLimited(t, of("&", joined("&", toTheRight, either), both), names, 32)
		isLimited(t, of("&", of("|", both, other), joined("&", toTheRight, either)), names, 33)
		isLimited(t, of("&", joined("&", toTheRight, either), of("|", other, both)), names, 33)
	}
}

// P16.1: what must come again and again, of more and more things.
func TestManySets(t *testing.T) {
	for n := 1; n <= 6; n++ {
		var l []prop.Formula
		for i := range n {
			l = append(l, of("R", no, of("U", yes, label(string(rune('a'+i))))))
		}
		g := built(t, joined("&", n%2 == 0, l), []string{"a", "b", "c", "d", "e", "f"})
		if len(g.Sets) != n || len(g.Init) != 1<<n {
			t.Errorf("Build of %d: %d sets, %d initial nodes", n, len(g.Sets), len(g.Init))
		}
		for i, node := range g.Nodes {
			if len(node.Next) != 1<<n {
				t.Errorf("Build of %d: behind %d come %v", n, i, node.Next)
			}
		}
	}
}

// sample: an automaton that is right.
func sample() GBA {
	return GBA{
		Props: 3,
		Nodes: []Node{{Need: 5, Forbid: 2, Next: []int{0, 1, 2}}, {Need: 7, Next: []int{2}}, {Forbid: 7}, {Next: []int{1, 3}}},
		Init:  []int{1, 2},
		Sets:  [][]int{{0, 3}, {}, {0, 1, 2, 3}, nil, {2}},
	}
}

// isChecked: what Check tells of the sample after an edit.
func isChecked(t *testing.T, what string, is bool, edit func(g *GBA)) {
	t.Helper()
	g := sample()
	edit(&g)
	err := Check(g)
	if is && err != nil || !is && (err != error(api.ErrArg) || !errors.Is(err, api.ErrArg)) {
		t.Errorf("Check, %s: %v", what, err)
	}
}

// P16.2
func TestCheck(t *testing.T) {
	isChecked(t, "the sample", true, func(g *GBA) {})
	isChecked(t, "of nothing", true, func(g *GBA) { *g = GBA{} })
	isChecked(t, "empty lists", true, func(g *GBA) { *g = GBA{Nodes: []Node{}, Init: []int{}, Sets: [][]int{}} })
	for _, props := range append(slices.Clone(ends), -2, 0, 1, 2, 3, 4, 5, 6, 7, 8, 31, 32, 62, 63, 64, 65, 128) {
		isChecked(t, "Props "+strconv.Itoa(props), props >= 3 && props <= 6, func(g *GBA) { g.Props = props })
		isChecked(t, "no node, Props "+strconv.Itoa(props), props >= 0 && props <= 6, func(g *GBA) { *g = GBA{Props: props} })
	}
	for _, nodes := range []int{1, 2, 4095, 4096, 4097, 5000} {
		isChecked(t, strconv.Itoa(nodes)+" nodes", nodes <= 4096, func(g *GBA) { *g = GBA{Nodes: make([]Node, nodes)} })
		isChecked(t, "the last one of "+strconv.Itoa(nodes), nodes <= 4096, func(g *GBA) { *g = GBA{Nodes: make([]Node, nodes), Init: []int{nodes - 1}} })
		isChecked(t, "behind the last one of "+strconv.Itoa(nodes), false, func(g *GBA) { *g = GBA{Nodes: make([]Node, nodes), Init: []int{nodes}} })
	}
	// There may be any number of sets.
	isChecked(t, "sets", true, func(g *GBA) { g.Sets = make([][]int, 9999) })
}

// P16.2
func TestCheckOfLetters(t *testing.T) {
	for i := range 4 {
		for need := -9; need < 18; need++ {
			for forbid := -9; forbid < 18; forbid++ {
				is := need >= 0 && need < 8 && forbid >= 0 && forbid < 8 && need&forbid == 0
				isChecked(t, strconv.Itoa(need)+" and "+strconv.Itoa(forbid), is, func(g *GBA) { g.Nodes[i].Need, g.Nodes[i].Forbid = need, forbid })
			}
		}
		for _, end := range ends {
			isChecked(t, "Need", false, func(g *GBA) { g.Nodes[i].Need, g.Nodes[i].Forbid = end, 0 })
			isChecked(t, "Forbid", false, func(g *GBA) { g.Nodes[i].Need, g.Nodes[i].Forbid = 0, end })
		}
	}
	for props := range 7 {
		isChecked(t, "the greatest letter", true, func(g *GBA) { *g = GBA{Props: props, Nodes: []Node{{Need: 1<<props - 1}}} })
		isChecked(t, "one more", false, func(g *GBA) { *g = GBA{Props: props, Nodes: []Node{{Need: 1 << props}}} })
		isChecked(t, "one more", false, func(g *GBA) { *g = GBA{Props: props, Nodes: []Node{{Forbid: 1 << props}}} })
	}
}

// P16.2
func TestCheckOfLists(t *testing.T) {
	for what, put := range map[string]func(g *GBA, l []int){
		"Init":      func(g *GBA, l []int) { g.Init = l },
		"first set": func(g *GBA, l []int) { g.Sets[0] = l },
		"last set":  func(g *GBA, l []int) { g.Sets[4] = l },
		"set more":  func(g *GBA, l []int) { g.Sets = append(g.Sets, l) },
		"Next of 0": func(g *GBA, l []int) { g.Nodes[0].Next = l },
		"Next of 3": func(g *GBA, l []int) { g.Nodes[3].Next = l },
	} {
		for _, l := range [][]int{nil, {}, {0}, {3}, {0, 1}, {1, 3}, {0, 1, 2, 3}} {
			isChecked(t, what, true, func(g *GBA) { put(g, l) })
		}
		for _, l := range [][]int{{4}, {-1}, {0, 0}, {3, 3}, {1, 0}, {0, 2, 1}, {0, 1, 2, 3, 3}, {0, 1, 2, 3, 4}, {-1, 0}, {0, -1}, {3, 0}} {
			isChecked(t, what, false, func(g *GBA) { put(g, l) })
		}
		for _, end := range ends {
			isChecked(t, what, false, func(g *GBA) { put(g, []int{end}) })
			isChecked(t, what, false, func(g *GBA) { put(g, []int{0, end}) })
			isChecked(t, what, false, func(g *GBA) { put(g, []int{end, 1}) })
		}
	}
}

// P16.2
func TestFits(t *testing.T) {
	for need := range 64 {
		for forbid := range 64 {
			for letter := range 64 {
				is := true
				for place := range 6 {
					has := letter>>place%2 == 1
					if need>>place%2 == 1 && !has || forbid>>place%2 == 1 && has {
						is = false
					}
				}
				if Fits(Node{Need: need, Forbid: forbid, Next: []int{-1}}, letter) != is {
					t.Fatalf("Fits of %d and %d, %d: %v", need, forbid, letter, !is)
				}
			}
		}
	}
	// What is below 0 is no letter, and has no name.
	for _, letter := range []int{-1, -2, -64, math.MinInt, math.MinInt + 1} {
		for _, n := range []Node{{}, {Need: 1}, {Forbid: 1}, {Need: letter}, {Need: 1, Forbid: 2}} {
			if Fits(n, letter) {
				t.Errorf("Fits of %+v, %d", n, letter)
			}
		}
	}
	for _, end := range ends {
		Fits(Node{Need: end, Forbid: -end}, end)
		if Fits(Node{Need: -1}, end) || !Fits(Node{}, max(end, 0)) {
			t.Errorf("Fits, %d", end)
		}
	}
}
