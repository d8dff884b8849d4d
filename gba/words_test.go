package gba

import (
	"slices"
	"strconv"
	"strings"

	"sortilege/prop"
)

// coming: a node that is coming up, as the chapter tells of it.
type coming struct {
	wanted    []prop.Formula
	old, next []prop.Formula
}

// with: a list with a formula more, unless it is there.
func with(l []prop.Formula, f prop.Formula) []prop.Formula {
	if has(l, f) {
		return l
	}
	return append(slices.Clone(l), f)
}

// has: is a formula there?
func has(l []prop.Formula, f prop.Formula) bool {
	return slices.ContainsFunc(l, func(g prop.Formula) bool { return prop.Same(f, g) })
}

// sameOnes: are two lists the same, but for their order?
func sameOnes(l, k []prop.Formula) bool {
	return len(l) == len(k) && !slices.ContainsFunc(l, func(f prop.Formula) bool { return !has(k, f) })
}

// teller of the chapter's words: an automaton is built by them alone, formula by formula.
type teller struct{ all []coming }

// come: the numbers of the nodes that come up of one, rising.
func (w *teller) come(n coming) []int {
	if len(n.wanted) == 0 {
		for i, elder := range w.all {
			if sameOnes(elder.old, n.old) && sameOnes(elder.next, n.next) {
				return []int{i}
			}
		}
		w.all = append(w.all, n)
		return []int{len(w.all) - 1}
	}
	f := n.wanted[0]
	goOn := func(next []prop.Formula, kids ...prop.Formula) []int {
		return w.come(coming{append(slices.Clone(n.wanted[1:]), kids...), with(n.old, f), next})
	}
	if has(n.old, f) {
		return goOn(n.next)
	}
	var l []int
	switch f.Op {
	case "false":
		return nil
	case "label":
		if has(n.old, of("!", f)) {
			return nil
		}
	case "!":
		if has(n.old, f.Kids[0]) {
			return nil
		}
	case "X":
		return goOn(with(n.next, f.Kids[0]))
	case "&":
		return goOn(n.next, f.Kids...)
	case "|":
		l = append(goOn(n.next, f.Kids[0]), goOn(n.next, f.Kids[1])...)
	case "U":
		l = append(goOn(n.next, f.Kids[1]), goOn(n.next, f.Kids[0], of("X", f))...)
	case "R":
		l = append(goOn(n.next, f.Kids[1], f.Kids[0]), goOn(n.next, f.Kids[1], of("X", f))...)
	}
	if len(f.Kids) < 2 {
		return goOn(n.next)
	}
	slices.Sort(l)
	return slices.Compact(l)
}

// told: the automaton of a formula, by the chapter's words.
func told(f prop.Formula, names []string) GBA {
	w := &teller{}
	g := GBA{Props: len(names), Init: w.come(coming{wanted: []prop.Formula{f}})}
	for i := 0; i < len(w.all); i++ {
		n := Node{Next: w.come(coming{wanted: w.all[i].next})}
		for place, name := range names {
			if has(w.all[i].old, label(name)) {
				n.Need |= 1 << place
			}
			if has(w.all[i].old, of("!", label(name))) {
				n.Forbid |= 1 << place
			}
		}
		g.Nodes = append(g.Nodes, n)
	}
	for _, u := range untils(nil, f) {
		var set []int
		for i, n := range w.all {
			if !has(n.old, u) || has(n.old, u.Kids[1]) {
				set = append(set, i)
			}
		}
		g.Sets = append(g.Sets, set)
	}
	return g
}

// untils: those within a formula, each once, behind some others.
func untils(l []prop.Formula, f prop.Formula) []prop.Formula {
	for _, kid := range f.Kids {
		l = untils(l, kid)
	}
	if f.Op == "U" {
		l = with(l, f)
	}
	return l
}

// alike: are two automata the same, but for their nodes' numbers and the order of their
// sets? (Nodes that look alike as far as one can go on from them count as alike.)
func alike(g, h GBA) bool {
	if g.Props != h.Props || len(g.Nodes) != len(h.Nodes) || len(g.Sets) != len(h.Sets) {
		return false
	}
	l, k := looks(g), looks(h)
	for many := 0; ; {
		names := map[string]int{}
		for _, look := range slices.Concat(l, k) {
			names[look] = 0
		}
		if !slices.Equal(sorted(l, nil), sorted(k, nil)) || !slices.Equal(sorted(l, g.Init), sorted(k, h.Init)) {
			return false
		}
		if len(names) == many {
			return true
		}
		many = len(names)
		l, k = further(g, l, names), further(h, k, names)
	}
}

// sorted: how some nodes look, or all of them, if there's no list.
func sorted(looks []string, l []int) []string {
	of := slices.Clone(looks)
	if l != nil {
		of = nil
		for _, i := range l {
			of = append(of, looks[i])
		}
	}
	slices.Sort(of)
	return of
}

// looks of all nodes, by themselves.
func looks(g GBA) []string {
	var l []string
	for i, n := range g.Nodes {
		sets := 0
		for _, set := range g.Sets {
			if slices.Contains(set, i) {
				sets++
			}
		}
		l = append(l, strconv.Itoa(n.Need)+" "+strconv.Itoa(n.Forbid)+" "+strconv.Itoa(sets))
	}
	return l
}

// further: how nodes look with those that come next. Each look there was gets a number
// that is told for it; two automata that were told by the same ones stay so.
func further(g GBA, looks []string, names map[string]int) []string {
	all := make([]string, 0, len(names))
	for look := range names {
		all = append(all, look)
	}
	slices.Sort(all)
	number := func(i int) string {
		at, _ := slices.BinarySearch(all, looks[i])
		return strconv.Itoa(at)
	}
	l := make([]string, len(looks))
	for i, n := range g.Nodes {
		next := make([]string, len(n.Next))
		for k, m := range n.Next {
			next[k] = number(m)
		}
		slices.Sort(next)
		l[i] = number(i) + ": " + strings.Join(next, " ")
	}
	return l
}
