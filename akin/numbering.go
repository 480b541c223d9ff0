package akin

import "iter"

// numbering keeps keys once, each under the number of keys that came before it.
type numbering[K comparable] map[K]int

// number tells a key's number; a key not met before gets the next one.
func (n numbering[K]) number(key K) int {
	if known, ok := n[key]; ok {
		return known
	}
	next := len(n)
	n[key] = next
	return next
}

// inOrder goes through the keys by their numbers. The keys are laid out by
// number first, so that the order in which the map gives them is not seen.
func (n numbering[K]) inOrder() iter.Seq[K] {
	return func(yield func(K) bool) {
		keys := make([]K, len(n))
		for key, at := range n {
			keys[at] = key
		}
		for _, key := range keys {
			if !yield(key) {
				return
			}
		}
	}
}
