package gba

import (
	"math"
	"slices"

	"sortilege/api"
	"sortilege/prop"
)

// shape of a part: its Op, and the numbers of its kids; of a label left is the place of
// its name.
type shape struct {
	op          string
	left, right int
}

// part: a formula that may be looked at.
type part struct {
	shape
	size    int     // how many Formulas
	letters uint64  // those at which it may hold: letter 0 is the lowest bit
	ways    [][]int // the parts to be looked at behind it, in one way or in two
}

// parts: the formulas within one, and X of each U and R, by numbers; alike ones once.
type parts struct {
	names   []string
	all     []part
	numbers map[shape]int
}

// number of a formula.
func (p *parts) number(f prop.Formula) int {
	s := shape{op: f.Op}
	if f.Op == "label" {
		s.left = slices.Index(p.names, f.Name)
	}
	if len(f.Kids) > 0 {
		s.left = p.number(f.Kids[0])
	}
	if len(f.Kids) > 1 {
		s.right = p.number(f.Kids[1])
	}
	return p.add(s)
}

// add a part, unless it is there already; its number.
func (p *parts) add(s shape) int {
	i, ok := p.numbers[s]
	if ok {
		return i
	}
	i = len(p.all)
	p.numbers[s] = i
	p.all = append(p.all, part{shape: s, size: p.size(s), letters: p.letters(s)})
	// Its X may come to be a part, too, and move them all.
	ways := p.ways(i, s)
	p.all[i].ways = ways
	return i
}

// next: the number of X of a part.
func (p *parts) next(i int) int {
	return p.add(shape{op: "X", left: i})
}

// size: how many Formulas a part has.
func (p *parts) size(s shape) int {
	switch s.op {
	case "!", "X":
		return p.all[s.left].size + 1
	case "&", "|", "U", "R":
		return p.all[s.left].size + p.all[s.right].size + 1
	}
	return 1
}

// letters over six names at which a part may hold, whatever comes behind.
func (p *parts) letters(s shape) uint64 {
	switch s.op {
	case "false":
		return 0
	case "label":
		return lettersWith(s.left)
	case "!":
		return ^p.all[s.left].letters
	case "&":
		return p.all[s.left].letters & p.all[s.right].letters
	case "|", "U":
		return p.all[s.left].letters | p.all[s.right].letters
	case "R":
		return p.all[s.right].letters
	}
	return math.MaxUint64
}

// lettersWith: those with the name at a place.
func lettersWith(place int) uint64 {
	var letters uint64
	for letter := range 1 << api.MaxProps {
		if letter>>place&1 == 1 {
			letters |= 1 << letter
		}
	}
	return letters
}

// ways in which a node goes on behind a part.
func (p *parts) ways(i int, s shape) [][]int {
	switch s.op {
	case "&":
		return [][]int{{s.left, s.right}}
	case "|":
		return [][]int{{s.left}, {s.right}}
	case "U":
		return [][]int{{s.right}, {s.left, p.next(i)}}
	case "R":
		return [][]int{{s.right, s.left}, {s.right, p.next(i)}}
	}
	return [][]int{{}}
}
