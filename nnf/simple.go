package nnf

import "sortilege/prop"

// simple: what is simpler than a normal formula; it is made in that one's memory.
func simple(f prop.Formula) prop.Formula {
	for i, kid := range f.Kids {
		f.Kids[i] = simple(kid)
	}
	// What is left of it is a kid, of which there is nothing simpler any more.
	left, right := sides(f)
	switch f.Op {
	case "X":
		if isTruth(left) {
			return left
		}
	case "&":
		return joined(f, "true", "false")
	case "|":
		return joined(f, "false", "true")
	case "U":
		if isTruth(right) || left.Op == "false" || prop.Same(left, right) {
			return right
		}
	case "R":
		if isTruth(right) || left.Op == "true" || prop.Same(left, right) {
			return right
		}
	}
	return f
}

// joined: what is left of two that are joined by & or |, where one truth beside the
// other kid counts for nothing, and one for all.
func joined(f prop.Formula, nothing, all string) prop.Formula {
	left, right := sides(f)
	switch {
	case left.Op == nothing, right.Op == all:
		return right
	case right.Op == nothing, left.Op == all, prop.Same(left, right):
		return left
	}
	return f
}

// isTruth: is it true, or false?
func isTruth(f prop.Formula) bool {
	return f.Op == "true" || f.Op == "false"
}
