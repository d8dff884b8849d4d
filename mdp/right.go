package mdp

import (
	"slices"

	"sortilege/api"
)

// isRight: is a process one, as the chapter has it?
func isRight(m MDP) bool {
	n := len(m.Choices)
	return n >= 1 && n <= api.MaxNodes &&
		isPlace(m.Init, n) &&
		len(m.Holds) == n &&
		leadRight(m.Choices) &&
		differ(m.Names) &&
		holdRight(m.Holds, len(m.Names))
}

// isPlace: is i a place in a list of so many?
func isPlace(i, length int) bool {
	return i >= 0 && i < length
}

// leadRight: has each state a choice, each choice a move, and are all moves such as
// may be?
func leadRight(l [][]Choice) bool {
	// last tells of each state the number of the last choice that was seen to lead
	// there: so no marks need be taken off between two choices.
	last := make([]int, len(l))
	count := 0
	for _, choices := range l {
		if len(choices) == 0 {
			return false
		}
		for _, c := range choices {
			count++
			if !movesRight(c.Moves, last, count) {
				return false
			}
		}
	}
	return true
}

// movesRight: is there a move, and does each of them go to a state of its own, with
// a weight? The states are marked in last with the choice's number.
func movesRight(l []Move, last []int, number int) bool {
	for _, v := range l {
		if !isPlace(v.To, len(last)) || last[v.To] == number || v.Weight < 1 {
			return false
		}
		last[v.To] = number
	}
	return len(l) > 0
}

// differ: is no text there twice?
func differ(l []string) bool {
	sorted := slices.Clone(l)
	slices.Sort(sorted)
	return len(slices.Compact(sorted)) == len(l)
}

// holdRight: are they, of each state, places among so many names, and rise?
func holdRight(l [][]int, names int) bool {
	for _, places := range l {
		least := 0
		for _, i := range places {
			if i < least || i >= names {
				return false
			}
			least = i + 1
		}
	}
	return true
}
