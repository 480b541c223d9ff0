package akin

import "iter"

// classes joins keys into classes of equal ones: each key leads to another of
// its class, until one that leads nowhere and stands for the class. A key that
// was never joined is in a class of its own.
type classes[K comparable] map[K]K

// of tells the key that stands for a key's class.
func (c classes[K]) of(key K) K {
	for {
		next, ok := c[key]
		if !ok {
			return key
		}
		key = next
	}
}

func (c classes[K]) same(a, b K) bool { return c.of(a) == c.of(b) }

// join makes one class of two. The first one's key goes on standing for it.
func (c classes[K]) join(a, b K) {
	if first, second := c.of(a), c.of(b); first != second {
		c[second] = first
	}
}

// alike goes through the places of a list whose key stands further left too:
// each behind the place where the key stands first.
func alike[K comparable](keys []K) iter.Seq2[int, int] {
	return func(yield func(int, int) bool) {
		firsts := make(map[K]int, len(keys))
		for at, key := range keys {
			first, ok := firsts[key]
			if !ok {
				firsts[key] = at
			} else if !yield(first, at) {
				return
			}
		}
	}
}

// together joins the places of a list at which the same key stands.
func together[K comparable](keys []K) classes[int] {
	joined := make(classes[int], len(keys))
	for first, at := range alike(keys) {
		joined.join(first, at)
	}
	return joined
}
