package lasso

import (
	"slices"

	"sortilege/api"
	"sortilege/prop"
)

// differ: is no text there twice?
func differ(l []string) bool {
	sorted := slices.Clone(l)
	slices.Sort(sorted)
	return len(slices.Compact(sorted)) == len(l)
}

// isRight: is a word one over so many names?
func isRight(w Lasso, names int) bool {
	return len(w.Loop) > 0 &&
		len(w.Stem)+len(w.Loop) <= api.MaxVector &&
		areLetters(w.Stem, names) &&
		areLetters(w.Loop, names)
}

// areLetters: are all of them letters over so many names?
func areLetters(l []int, names int) bool {
	return !slices.ContainsFunc(l, func(letter int) bool {
		return letter < 0 || letter >= 1<<names
	})
}

// isFormula: has it an Op that is one, and as many kids, and so have all of these?
func isFormula(f prop.Formula) bool {
	return len(f.Kids) == kidsOf(f.Op) &&
		!slices.ContainsFunc(f.Kids, func(kid prop.Formula) bool { return !isFormula(kid) })
}

// kidsOf: how many kids a formula with that Op has; less than none if there is no
// such Op.
func kidsOf(op string) int {
	switch op {
	case "true", "false", "label":
		return 0
	case "!", "X", "F", "G":
		return 1
	case "&", "|", "=>", "U", "W", "R":
		return 2
	}
	return -1
}
