package akin

import (
	"cmp"
	"iter"
	"maps"
	"slices"
)

// numbering keeps keys once, each under the number of keys that came before it.
type numbering[K comparable] map[K]int

// number tells a key's number; a key not met before gets the next one.
func (n numbering[K]) number(key K) int {
	if known, ok := n[key]; ok {
		return known
	}
	next := len(n)
	n[key] = next
	return next
}

// list tells the keys, each at the place that is its number.
func (n numbering[K]) list() []K {
	list := make([]K, 0, len(n))
	for key := range inOrder(n, func(_ K, number int) int { return number }) {
		list = append(list, key)
	}
	return list
}

// inOrder goes through a map, the entry of the least rank first. No two entries
// may have one rank, or the order in which the map gives them would be seen.
func inOrder[K comparable, V any, R cmp.Ordered](m map[K]V, rank func(K, V) R) iter.Seq2[K, V] {
	return func(yield func(K, V) bool) {
		keys := slices.SortedFunc(maps.Keys(m), func(a, b K) int {
			return cmp.Compare(rank(a, m[a]), rank(b, m[b]))
		})
		for _, key := range keys {
			if !yield(key, m[key]) {
				return
			}
		}
	}
}
