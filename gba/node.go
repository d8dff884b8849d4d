package gba

import (
	"cmp"
	"math"
	"slices"
)

// What a part is to a node.
const (
	isWanted byte = 1 << iota // it is to be looked at
	isOld                     // it was
	isNext                    // it is one of the next node's
)

// node that is coming up.
type node struct {
	parts   []part
	marks   []byte // of each part, what it is to the node
	wanted  []int  // the parts that are to be looked at
	letters uint64 // those at which these and the OLD ones may hold
}

// newNode: with some parts that are to be looked at.
func newNode(all []part, wanted []int) *node {
	n := &node{parts: all, marks: make([]byte, len(all)), letters: math.MaxUint64}
	n.want(wanted)
	return n
}

// copy: another one, which may go on in another way.
func (n *node) copy() *node {
	c := *n
	c.marks = slices.Clone(n.marks)
	c.wanted = slices.Clone(n.wanted)
	return &c
}

// want some parts to be looked at, but for those that were.
func (n *node) want(l []int) {
	for _, i := range l {
		if n.marks[i]&(isWanted|isOld) == 0 {
			n.marks[i] |= isWanted
			n.wanted = append(n.wanted, i)
			n.letters &= n.parts[i].letters
		}
	}
}

// look at the wanted part at a place, and go on in one of its ways.
func (n *node) look(at int, way []int) {
	i := n.wanted[at]
	n.wanted = slices.Delete(n.wanted, at, at+1)
	n.marks[i] ^= isWanted | isOld
	if n.parts[i].op == "X" {
		n.marks[n.parts[i].left] |= isNext
	}
	n.want(way)
}

// goOn till everything was looked at, or there are two ways: then these, and the place
// of the wanted part that has them.
func (n *node) goOn() (int, [][]int) {
	for len(n.wanted) > 0 {
		at, ways := n.turn()
		if len(ways) > 1 {
			return at, ways
		}
		n.look(at, ways[0])
	}
	return 0, nil
}

// turn: the place of the wanted part whose turn it is, and its ways that are open.
func (n *node) turn() (at int, ways [][]int) {
	for k, i := range n.wanted {
		// What leaves one way alone comes first: no copy is needed for it.
		if open := n.open(n.parts[i].ways); len(open) == 1 {
			return k, open
		}
		// Then comes the longest part, ahead of what is within others. Else what one copy has
		// looked at might still come up in another one, and both would come to the same nodes:
		// of many such parts in more ways than can be waited for.
		if n.isLonger(i, n.wanted[at]) {
			at = k
		}
	}
	return at, n.parts[n.wanted[at]].ways
}

// isLonger: has a part more Formulas than another one, or as many and comes behind it?
func (n *node) isLonger(i, k int) bool {
	return cmp.Or(cmp.Compare(n.parts[i].size, n.parts[k].size), cmp.Compare(i, k)) > 0
}

// open: of one way or of two those that some letter leaves open; there is one at least,
// since the part that has them may hold.
func (n *node) open(ways [][]int) [][]int {
	switch {
	case len(ways) == 1:
		return ways
	case !n.mayHold(ways[0]):
		return ways[1:]
	case !n.mayHold(ways[1]):
		return ways[:1]
	}
	return ways
}

// mayHold: is there a letter at which some parts, too, may hold?
func (n *node) mayHold(l []int) bool {
	letters := n.letters
	for _, i := range l {
		letters &= n.parts[i].letters
	}
	return letters != 0
}

// has: is a part one of the OLD ones?
func (n *node) has(i int) bool {
	return n.marks[i]&isOld != 0
}

// next: the parts of the next node.
func (n *node) next() []int {
	var l []int
	for i, mark := range n.marks {
		if mark&isNext != 0 {
			l = append(l, i)
		}
	}
	return l
}

// literals: the names of the OLD labels, and those of the ones with ! ahead, as letters.
func (n *node) literals() (need, forbid int) {
	for i, p := range n.parts {
		switch {
		case !n.has(i):
		case p.op == "label":
			need |= 1 << p.left
		case p.op == "!":
			forbid |= 1 << n.parts[p.left].left
		}
	}
	return need, forbid
}
