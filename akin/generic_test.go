package akin

import (
	"slices"
	"testing"
)

// joinAll joins two keys of a list at each step, and asks after each which
// keys are in one class.
func joinAll[K comparable](t *testing.T, keys []K, steps [][2]int) {
	t.Helper()
	c := classes[K]{}
	joined := make([]int, len(keys))
	for i := range joined {
		joined[i] = i
	}
	for _, step := range steps {
		stands := c.of(keys[step[0]])
		c.join(keys[step[0]], keys[step[1]])
		if c.of(keys[step[1]]) != stands {
			t.Errorf("at %v of %v: what stood for the first class does not stand for both", step, steps)
		}
		from, to := joined[step[1]], joined[step[0]]
		for i := range joined {
			if joined[i] == from {
				joined[i] = to
			}
		}
		for i, a := range keys {
			for j, b := range keys {
				if c.same(a, b) != (joined[i] == joined[j]) {
					t.Errorf("after %v of %v: same(%v, %v) = %v", step, steps, a, b, c.same(a, b))
				}
			}
		}
	}
}

// Classes are the same whatever the keys are, and in whatever order, or again,
// they are joined.
func TestClassesOfSeveralKindsOfKeys(t *testing.T) {
	for _, steps := range [][][2]int{
		{}, {{0, 1}}, {{1, 0}}, {{2, 2}},
		{{0, 1}, {1, 2}, {2, 3}, {3, 4}},
		{{4, 3}, {3, 2}, {2, 1}, {1, 0}},
		{{0, 1}, {2, 3}, {1, 3}, {4, 1}},
		{{1, 0}, {3, 2}, {0, 2}, {2, 4}, {4, 0}},
		{{0, 4}, {1, 3}, {3, 4}, {4, 2}, {2, 3}, {0, 1}},
	} {
		joinAll(t, []int{0, 1, 2, 3, 4}, steps)
		joinAll(t, []string{"", "b", "a", "ab", "c"}, steps)
		joinAll(t, []term{{'f', 0, 0}, {'f', 1, 0}, {'g', 0, 1}, {'g', 1, 0}, {}}, steps)
	}
}

func TestNumberingKeepsKeysOnce(t *testing.T) {
	n := numbering[string]{}
	for _, c := range []struct {
		key  string
		want int
	}{{"c", 0}, {"a", 1}, {"c", 0}, {"", 2}, {"b", 3}, {"a", 1}, {"", 2}} {
		if got := n.number(c.key); got != c.want {
			t.Errorf("number(%q) = %d, want %d", c.key, got, c.want)
		}
	}
	if got, want := n.list(), []string{"c", "a", "", "b"}; !slices.Equal(got, want) {
		t.Errorf("list() = %q, want %q", got, want)
	}
}

func TestInOrderGoesByRankAndStopsWhenAsked(t *testing.T) {
	m := map[string]int{"c": 3, "a": 9, "b": 1, "d": 7}
	byKey := func(key string, _ int) string { return key }
	downward := func(_ string, value int) int { return -value }
	for range 20 {
		var keys []string
		for key, value := range inOrder(m, byKey) {
			if key == "c" {
				break
			}
			if value != m[key] {
				t.Errorf("%q goes with %d, want %d", key, value, m[key])
			}
			keys = append(keys, key)
		}
		for key := range inOrder(m, downward) {
			keys = append(keys, key)
		}
		if want := []string{"a", "b", "a", "d", "c", "b"}; !slices.Equal(keys, want) {
			t.Errorf("gone through as %q, want %q", keys, want)
		}
	}
}

func TestAlikeTellsWhereAKeyStoodFirst(t *testing.T) {
	var pairs [][2]int
	for first, at := range alike([]string{"x", "y", "x", "z", "y", "x", "w"}) {
		pairs = append(pairs, [2]int{first, at})
	}
	if want := [][2]int{{0, 2}, {1, 4}, {0, 5}}; !slices.Equal(pairs, want) {
		t.Errorf("alike: %v, want %v", pairs, want)
	}
	for range alike([]int{}) {
		t.Error("alike: no places have a pair")
	}
}
