package nnf

import (
	"sortilege/api"
	"sortilege/prop"
)

// most Formulas that are looked at for whether they may be what they are: no text has
// more.
const most = api.MaxText

// areAll: is it so of a formula, and of all of those within it?
func areAll(f prop.Formula, is func(prop.Formula) bool) bool {
	// A list of those still to be looked at, rather than a call for each, that has an
	// end: so one that is within itself is come to an end with, too.
	todo := []prop.Formula{f}
	for n := 0; len(todo) > 0 && n < most; n++ {
		last := len(todo) - 1
		f := todo[last]
		if !is(f) {
			return false
		}
		todo = append(todo[:last], f.Kids...)
	}
	return true
}

// isRight: has it an Op that is one, and as many kids?
func isRight(f prop.Formula) bool {
	return len(f.Kids) == kidsOf(f.Op)
}

// isNormal: may it stand in a normal formula?
func isNormal(f prop.Formula) bool {
	switch f.Op {
	case "=>", "F", "G", "W":
		return false
	case "!":
		return len(f.Kids) == 1 && f.Kids[0].Op == "label"
	}
	return isRight(f)
}

// kidsOf: how many kids a formula with that Op has; less than none if there is no
// such Op.
func kidsOf(op string) int {
	switch op {
	case "true", "false", "label":
		return 0
	case "!", "X", "F", "G":
		return 1
	case "&", "|", "=>", "U", "W", "R":
		return 2
	}
	return -1
}
