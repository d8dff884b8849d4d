package lasso

import (
	"slices"

	"sortilege/prop"
)

// places of a word over names.
type places struct {
	names   []string
	letters []int
	again   int // the place that comes behind the last one
}

// truths: at which places a formula holds.
func (p places) truths(f prop.Formula) []bool {
	left, right := p.sides(f)
	switch f.Op {
	case "true":
		return p.all(true)
	case "label":
		return p.label(f.Name)
	case "!":
		return opposite(left)
	case "X":
		return p.next(left)
	case "=>":
		// f => g is !f | g.
		left = opposite(left)
		fallthrough
	case "|":
		return either(left, right)
	case "&":
		return both(left, right)
	case "F":
		// F g is true U g.
		left, right = p.all(true), left
		fallthrough
	case "U":
		return p.until(left, right, false)
	case "G":
		// G g is false R g.
		left, right = p.all(false), left
		fallthrough
	case "R":
		// f R g is g W (f & g).
		left, right = right, both(left, right)
		fallthrough
	case "W":
		return p.until(left, right, true)
	}
	return p.all(false)
}

// sides: of a formula's kids the truths, none of one that isn't there.
func (p places) sides(f prop.Formula) (left, right []bool) {
	if len(f.Kids) > 0 {
		left = p.truths(f.Kids[0])
	}
	if len(f.Kids) > 1 {
		right = p.truths(f.Kids[1])
	}
	return left, right
}

// all: the same at each place.
func (p places) all(is bool) []bool {
	return slices.Repeat([]bool{is}, len(p.letters))
}

// label: where the name holds.
func (p places) label(name string) []bool {
	bit := 1 << slices.Index(p.names, name)
	l := make([]bool, len(p.letters))
	for i, letter := range p.letters {
		l[i] = letter&bit != 0
	}
	return l
}

// next: where something holds at the next place.
func (p places) next(l []bool) []bool {
	return append(slices.Clone(l[1:]), l[p.again])
}

// until: where right holds at a place further on or there, and left at all ahead of
// it, or, if left alone may hold forever, where it does.
func (p places) until(left, right []bool, forever bool) []bool {
	l := make([]bool, len(p.letters))
	further := forever
	// What is found of the loop's first place the first time is so, for all of the
	// loop lies between it and the end; the second time the end goes by it.
	for range 2 {
		for i := len(l) - 1; i >= 0; i-- {
			further = right[i] || left[i] && further
			l[i] = further
		}
		further = l[p.again]
	}
	return l
}

// opposite: where something doesn't hold.
func opposite(l []bool) []bool {
	turned := make([]bool, len(l))
	for i, is := range l {
		turned[i] = !is
	}
	return turned
}

// both: where one thing holds and another one does.
func both(l, k []bool) []bool {
	joined := make([]bool, len(l))
	for i := range l {
		joined[i] = l[i] && k[i]
	}
	return joined
}

// either: where one of two things holds.
func either(l, k []bool) []bool {
	joined := make([]bool, len(l))
	for i := range l {
		joined[i] = l[i] || k[i]
	}
	return joined
}
