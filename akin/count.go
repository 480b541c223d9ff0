package akin

import (
	"iter"
	"slices"
)

// countModels goes through all cases. Whether the classes are as functions ask
// is the same for all ways the claims may be, and so is asked ahead of them.
func (f formula) countModels() int {
	count := 0
	for equal := range allClasses(len(f.terms)) {
		if !f.congruent(equal) {
			continue
		}
		for holds := range allTruths(len(f.claims)) {
			s := situation{equal, holds}
			if f.agreed(s) && f.isTrue(s) {
				count++
			}
		}
	}
	return count
}

// allClasses goes through all ways to put the numbers below n into classes.
func allClasses(n int) iter.Seq[classes[int]] {
	return func(yield func(classes[int]) bool) {
		digits := make([]int, n)
		for more := true; more; more = nextDigits(digits) {
			if !yield(together(digits)) {
				return
			}
		}
	}
}

// nextDigits goes on to the next digits that number classes in the order of
// their first members: the last digit that may grow does, and all behind it
// are 0 again. A digit may grow to one more than those ahead of it.
func nextDigits(digits []int) bool {
	for at := len(digits) - 1; at > 0; at-- {
		if digits[at] <= slices.Max(digits[:at]) {
			digits[at]++
			clear(digits[at+1:])
			return true
		}
	}
	return false
}

// allTruths goes through all ways n claims may hold or not.
func allTruths(n int) iter.Seq[[]bool] {
	return func(yield func([]bool) bool) {
		for bits := range 1 << n {
			truths := make([]bool, n)
			for at := range truths {
				truths[at] = bits>>at&1 == 1
			}
			if !yield(truths) {
				return
			}
		}
	}
}
