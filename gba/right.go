package gba

import (
	"slices"

	"sortilege/api"
)

// differ: is no text there twice?
func differ(l []string) bool {
	sorted := slices.Clone(l)
	slices.Sort(sorted)
	return len(slices.Compact(sorted)) == len(l)
}

// isRight: is an automaton what it must be?
func isRight(g GBA) bool {
	return g.Props >= 0 && g.Props <= api.MaxProps &&
		len(g.Nodes) <= api.MaxNodes &&
		!slices.ContainsFunc(g.Nodes, func(n Node) bool { return !isNode(n, g) }) &&
		rise(g.Init, g) &&
		!slices.ContainsFunc(g.Sets, func(set []int) bool { return !rise(set, g) })
}

// isNode: may a node be one of an automaton?
func isNode(n Node, g GBA) bool {
	return isLetter(n.Need, g) && isLetter(n.Forbid, g) && n.Need&n.Forbid == 0 && rise(n.Next, g)
}

// isLetter: is a number a letter over an automaton's names?
func isLetter(letter int, g GBA) bool {
	return letter >= 0 && letter < 1<<g.Props
}

// rise: does a list name nodes of an automaton, each one greater than the one ahead?
func rise(l []int, g GBA) bool {
	least := 0
	for _, i := range l {
		if i < least || i >= len(g.Nodes) {
			return false
		}
		least = i + 1
	}
	return true
}
