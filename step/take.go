package step

import (
	"iter"

	"sortilege/api"
)

// takings: each way to take one item of each list, the first list's changing
// slowest. What is told is the same slice each time.
//
// They are counted like a number with a digit for each list.
func takings[L ~[]T, T any](lists []L) iter.Seq[[]T] {
	return func(yield func([]T) bool) {
		digits := make([]int, len(lists))
		taken := make([]T, len(lists))
		for more := howMany(lists) > 0; more; more = countOn(digits, lists) {
			for i, l := range lists {
				taken[i] = l[digits[i]]
			}
			if !yield(taken) {
				return
			}
		}
	}
}

// countOn: to the next number, the last digit being the lowest one; false behind
// the greatest number.
func countOn[L ~[]T, T any](digits []int, lists []L) bool {
	for i := len(digits) - 1; i >= 0; i-- {
		digits[i]++
		if digits[i] < len(lists[i]) {
			return true
		}
		digits[i] = 0
	}
	return false
}

// howMany takings there are, or one more than may be, if there are more than that.
func howMany[L ~[]T, T any](lists []L) int {
	n := 1
	for _, l := range lists {
		n = min(n*len(l), api.MaxNodes+1)
	}
	return n
}
