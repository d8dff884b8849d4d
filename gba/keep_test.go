package gba

import (
	"reflect"
	"slices"
	"testing"

	"sortilege/prop"
)

// placeless: the same formula in other memory, all Pos 0.
func placeless(f prop.Formula) prop.Formula {
	var kids []prop.Formula
	for _, kid := range f.Kids {
		kids = append(kids, placeless(kid))
	}
	f.Pos, f.Kids = 0, kids
	return f
}

// room: a list with what it may grow to.
func room[T any](l []T) []T { return l[:cap(l)] }

// listsOf: all lists of nodes that an automaton has.
func listsOf(g GBA) [][]int {
	l := append([][]int{g.Init}, g.Sets...)
	for _, n := range g.Nodes {
		l = append(l, n.Next)
	}
	return l
}

// areAlone: no two lists of some automata share memory.
func areAlone(t *testing.T, all ...GBA) {
	t.Helper()
	numbers, nodes := map[*int]bool{}, map[*Node]bool{}
	for _, g := range all {
		for _, l := range listsOf(g) {
			for i := range room(l) {
				if numbers[&room(l)[i]] {
					t.Fatalf("two lists of %+v share memory", g)
				}
				numbers[&room(l)[i]] = true
			}
		}
		for i := range room(g.Nodes) {
			if nodes[&room(g.Nodes)[i]] {
				t.Fatalf("two lists of %+v share memory", g)
			}
			nodes[&room(g.Nodes)[i]] = true
		}
	}
}

// spoil all that is told, and what it may grow to.
func spoil(g GBA) {
	for _, l := range listsOf(g) {
		for i := range room(l) {
			room(l)[i] = -7
		}
	}
	for i := range room(g.Nodes) {
		room(g.Nodes)[i] = Node{Need: -7, Forbid: -7, Next: []int{-7}}
	}
	for i := range room(g.Sets) {
		room(g.Sets)[i] = []int{-7}
	}
}

// copied: the same automaton in other memory, as far as it was told.
func copied(g GBA) GBA {
	c := g
	c.Init = slices.Clone(g.Init)
	c.Nodes = slices.Clone(g.Nodes)
	for i, n := range g.Nodes {
		c.Nodes[i].Next = slices.Clone(n.Next)
	}
	c.Sets = slices.Clone(g.Sets)
	for i, set := range g.Sets {
		c.Sets[i] = slices.Clone(set)
	}
	return c
}

// R4, R6: what is handed in stays, what is told is the caller's, and is told again.
func TestNothingIsChangedOrKept(t *testing.T) {
	for _, s := range []string{"true", "false", "'a & !'a", "X X 'a", "'a U 'b", "'b R !'a", "G F 'a & G F 'b", "F G ('a | X 'b)", "('a U 'b) & (X ('a U 'b) | 'a)", "G ('a => F 'b) & F !'b"} {
		f := read(t, s)
		f.Kids = append(f.Kids, of("spare"))[:len(f.Kids)]
		was := placeless(f)
		names := []string{"b", "a", "spare"}
		first := built(t, f, names[:2])
		want := copied(first)
		second := built(t, f, names[:2])
		if !reflect.DeepEqual(first, second) {
			t.Fatalf("Build of %s: %+v, and then %+v", s, first, second)
		}
		areAlone(t, first, second)
		spoil(second)
		if third := built(t, f, names[:2]); !reflect.DeepEqual(first, want) || !reflect.DeepEqual(third, want) {
			t.Errorf("Build of %s: %+v, then %+v", s, first, third)
		}
		if _, err := Build(f, names[:2], 1); err == nil && len(first.Nodes) > 1 {
			t.Errorf("Build of %s, limit 1: no error", s)
		}
		if !prop.Same(f, was) || room(f.Kids)[len(f.Kids)].Op != "spare" || !slices.Equal(names, []string{"b", "a", "spare"}) {
			t.Errorf("%s and %q changed", s, names)
		}
	}
}

// R4
func TestCheckAndFitsChangeNothing(t *testing.T) {
	g := sample()
	Check(g)
	Fits(g.Nodes[0], 5)
	g.Init[1] = 9
	Check(g)
	g.Init[1] = 2
	if !reflect.DeepEqual(g, sample()) {
		t.Errorf("%+v", g)
	}
}
