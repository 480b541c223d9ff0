package akin

import (
	"math/rand"
	"slices"
	"strings"
	"testing"
)

func noObjection(map[int]belief) rule { return nil }

// keeps tells whether truths, the bits of a number, keep all rules.
func keeps(rules []rule, bits int) bool {
	for _, r := range rules {
		if !slices.ContainsFunc(r, func(v view) bool { return v.is == (bits>>v.of&1 == 1) }) {
			return false
		}
	}
	return true
}

// kept counts the truths that keep all rules, of all that there are.
func kept(unknowns int, rules []rule) int {
	count := 0
	for bits := range 1 << unknowns {
		if keeps(rules, bits) {
			count++
		}
	}
	return count
}

// bitsOf tells what is believed of each unknown as the bits of a number.
func bitsOf(t *testing.T, s *search) int {
	t.Helper()
	bits := 0
	for of := range s.unknowns {
		b, ok := s.beliefs[of]
		if !ok {
			t.Errorf("nothing is believed of %d: %v", of, s.beliefs)
		}
		if b.is {
			bits |= 1 << of
		}
	}
	return bits
}

// learnedOnce looks whether each rule that was learned is new and follows.
func learnedOnce(t *testing.T, s *search, known int) {
	t.Helper()
	seen := map[string]bool{}
	for at, r := range s.rules {
		var text strings.Builder
		for of := range s.unknowns {
			for _, is := range []bool{true, false} {
				text.WriteByte(map[bool]byte{true: '1', false: '0'}[slices.Contains(r, view{of, is})])
			}
		}
		if at >= known && seen[text.String()] {
			t.Errorf("the rule %v was learned though it was known", r)
		}
		seen[text.String()] = true
		for bits := range 1 << s.unknowns {
			if at >= known && keeps(s.rules[:known], bits) && !keeps(s.rules[at:at+1], bits) {
				t.Errorf("the rule %v was learned, but does not follow from %v", r, s.rules[:known])
				return
			}
		}
	}
}

func searchTapes() []string {
	return []string{"", "1", "9", "48", strings.Repeat("1", 60), strings.Repeat("9", 60), strings.Repeat("07", 30), strings.Repeat("38146", 12)}
}

// settle looks for truths that keep the rules, with several tapes.
func settle(t *testing.T, unknowns int, rules []rule) (found bool) {
	t.Helper()
	want := kept(unknowns, rules) > 0
	for _, tape := range searchTapes() {
		s := search{unknowns: unknowns, rules: slices.Clone(rules), object: noObjection, tape: tape}
		if found = s.finds(); found != want {
			t.Fatalf("finds of %v with %q: %v, want %v", rules, tape, found, want)
		}
		if found && !keeps(rules, bitsOf(t, &s)) {
			t.Errorf("finds of %v with %q: %v", rules, tape, s.beliefs)
		}
		learnedOnce(t, &s, len(rules))
	}
	return found
}

func TestSearchSettlesFewRules(t *testing.T) {
	a, b, c := view{0, true}, view{1, true}, view{2, true}
	for _, test := range []struct {
		rules []rule
		want  bool
	}{
		{nil, true}, {[]rule{{a}}, true}, {[]rule{{a}, {a.not()}}, false}, {[]rule{{a, b}, {b.not()}}, true},
		{[]rule{{a, a.not()}}, true}, {[]rule{{a, a.not()}, {b, b.not()}, {a, b}, {a.not(), b.not()}}, true},
		{[]rule{{a, b}, {a, b.not()}, {a.not(), b}}, true}, {[]rule{{a, b}, {a, b.not()}, {a.not(), b}, {a.not(), b.not()}}, false},
		{[]rule{{c, b, a}, {a.not()}, {b.not()}, {c.not()}}, false}, {[]rule{{c}, {c.not(), b}, {b.not(), a}}, true},
	} {
		if got := settle(t, 3, test.rules); got != test.want {
			t.Errorf("finds of %v: %v", test.rules, got)
		}
	}
	settle(t, 0, nil)
}

// A view that is demanded twice in one rule stands there once.
func TestDemandTakesEachViewOnce(t *testing.T) {
	a, b := view{0, true}, view{1, true}
	l := newLogic()
	l.demand(a, a)
	l.demand(b, a.not(), b, a, b)
	if len(l.rules) != 2 || !slices.Equal(l.rules[0], rule{a}) || !slices.Equal(l.rules[1], rule{b, a.not(), a}) {
		t.Errorf("demanded: %v", l.rules)
	}
}

func TestSearchSettlesManyRules(t *testing.T) {
	r := rand.New(rand.NewSource(3))
	found := map[bool]int{}
	for range 400 {
		unknowns := 4 + r.Intn(5)
		l := newLogic()
		for range r.Intn(6 * unknowns) {
			var one []view
			for range 1 + r.Intn(4) {
				one = append(one, view{r.Intn(unknowns), r.Intn(2) == 1})
			}
			l.demand(one...)
		}
		found[settle(t, unknowns, l.rules)]++
	}
	if found[true] < 50 || found[false] < 50 {
		t.Errorf("too few were found, or too many: %v", found)
	}
}

// Four things have no room in three places; nothing shorter tells so.
func TestSearchSettlesWhatIsHardToSettle(t *testing.T) {
	in := func(thing, place int) view { return view{3*thing + place, true} }
	var rules []rule
	for thing := range 4 {
		rules = append(rules, rule{in(thing, 0), in(thing, 1), in(thing, 2)})
		for other := range thing {
			for place := range 3 {
				rules = append(rules, rule{in(thing, place).not(), in(other, place).not()})
			}
		}
	}
	if settle(t, 12, rules) {
		t.Error("four things found room in three places")
	}
	if !settle(t, 12, rules[1:]) {
		t.Error("three things found no room in three places")
	}
}

// Whatever is believed is objected to, but for one way to believe all, or none.
func TestSearchBeginsAnewUntilNothingIsObjected(t *testing.T) {
	for _, tape := range searchTapes() {
		for want := range 33 {
			s := search{unknowns: 5, tape: tape}
			objected := 0
			s.object = func(beliefs map[int]belief) rule {
				if bitsOf(t, &s) == want {
					return nil
				}
				objected++
				var all rule
				for of, b := range beliefs {
					all = append(all, view{of, !b.is})
				}
				return all
			}
			if found := s.finds(); found != (want < 32) {
				t.Errorf("finds with %q, where %d is not objected to: %v", tape, want, found)
			}
			if want == 32 && objected != 32 {
				t.Errorf("finds with %q ends after %d objections", tape, objected)
			}
		}
	}
}

// Half a digit tells which of what is open is chosen, and whether it is odd, how;
// a digit also tells whether the search goes back or begins anew. A tape that
// has ended goes on with 0.
func TestSearchIsSteeredByTheTape(t *testing.T) {
	a, b, c := view{0, true}, view{1, true}, view{2, true}
	notB := []rule{{b.not(), c}, {b.not(), c.not()}}
	notBoth := []rule{{a.not(), b.not(), c}, {a.not(), b.not(), c.not()}}
	for _, test := range []struct {
		tape  string
		rules []rule
		want  []view
	}{
		{"", nil, []view{a.not(), b.not(), c.not()}}, {"0", nil, []view{a.not(), b.not(), c.not()}},
		{"1", nil, []view{a, b.not(), c.not()}}, {"01", nil, []view{a.not(), b, c.not()}}, {"001", nil, []view{a.not(), b.not(), c}},
		{"2", nil, []view{b.not(), a.not(), c.not()}}, {"5", nil, []view{c, a.not(), b.not()}}, {"7", nil, []view{a, b.not(), c.not()}},
		{"8", nil, []view{b.not(), a.not(), c.not()}}, {"95", nil, []view{b, a, c.not()}}, {"939", nil, []view{b, c, a}}, {"999111", nil, []view{b, a, c}},
		{"", []rule{{c}}, []view{c, a.not(), b.not()}}, {"3", []rule{{c}, {b.not(), a}}, []view{c, b, a}},
		{"110", notB, []view{a, b.not(), c.not()}}, {"1101", notB, []view{a, b.not(), c}},
		{"111", notB, []view{b.not(), a.not(), c.not()}}, {"1111", notB, []view{b.not(), a, c.not()}},
		{"110", notBoth, []view{a, b.not(), c.not()}}, {"111", notBoth, []view{a.not(), b.not(), c.not()}}, {"11111", notBoth, []view{a, b.not(), c}},
	} {
		s := search{unknowns: 3, rules: slices.Clone(test.rules), object: noObjection, tape: test.tape}
		s.finds()
		var got []view
		for of, b := range inOrder(s.beliefs, func(_ int, b belief) int { return b.since }) {
			got = append(got, view{of, b.is})
		}
		if !slices.Equal(got, test.want) {
			t.Errorf("with the tape %q and the rules %v %v is believed, want %v", test.tape, test.rules, got, test.want)
		}
	}
}

// Each digit, where more is open than a digit can tell, tells something else.
func TestEachDigitChoosesSomethingElse(t *testing.T) {
	for digit := range 10 {
		s := search{unknowns: 7, object: noObjection, tape: string(rune('0' + digit))}
		s.finds()
		if b := s.beliefs[digit/2]; b.since != 0 || b.is != (digit%2 == 1) {
			t.Errorf("with the tape %d %v is believed", digit, s.beliefs)
		}
	}
}

// Way 0 makes plain logic of everything at the beginning; way 1 does not.
func TestEachNumberHasItsWay(t *testing.T) {
	differ := 0
	for _, text := range []string{"(a=b|b=c)", "(P(a)-P(b))", "(f(a)=b|a=f(b))", "(a=b>(b=c|P(a)))", "!(a=b&(c=d&P(a)))"} {
		f, _, _ := read(text)
		for _, tape := range searchTapes() {
			_, ahead := f.decideAhead(tape)
			_, after := f.decideAfter(tape)
			_, first, _ := Decide(text, 0, tape)
			_, second, _ := Decide(text, 1, tape)
			if first != ahead || second != after {
				t.Errorf("Decide of %q and %q tells %q and %q, want %q and %q", text, tape, first, second, ahead, after)
			}
			if ahead != after {
				differ++
			}
		}
	}
	if differ == 0 {
		t.Error("the ways never differ, so their numbers were not tested")
	}
}

// An objection names what is needed of what is said, and no more.
func TestObjectionNamesNoMoreThanIsNeeded(t *testing.T) {
	f, errno, _ := read("((a=b&b=c)&((P(a)&P(f(c)))&(f(a)=c|f(c)=d)))")
	if errno != OK {
		t.Fatal(errno)
	}
	a, b, c, fc, fa, d := 0, 1, 2, 3, 4, 5
	for _, test := range []struct {
		said []saying
		want []int
	}{
		{nil, nil},
		{[]saying{{view{0, true}, equality(a, b)}, {view{1, true}, equality(b, c)}}, nil},
		{[]saying{{view{0, false}, equality(a, b)}, {view{1, false}, equality(b, c)}}, nil},
		{[]saying{{view{0, false}, equality(d, d)}, {view{1, true}, equality(b, c)}}, []int{0}},
		{[]saying{{view{0, true}, equality(a, b)}, {view{1, true}, equality(c, b)}, {view{2, true}, equality(d, a)}, {view{3, false}, equality(c, a)}}, []int{0, 1, 3}},
		{[]saying{{view{0, true}, equality(a, d)}, {view{1, true}, equality(c, a)}, {view{2, false}, equality(fa, fc)}, {view{3, true}, equality(d, b)}}, []int{1, 2}},
		{[]saying{{view{0, true}, piece{'P', 0, 0}}, {view{1, false}, piece{'P', 1, 0}}}, nil},
		{[]saying{{view{0, true}, piece{'P', 0, 0}}, {view{1, false}, piece{'P', 1, 0}}, {view{2, true}, equality(b, d)}, {view{3, true}, equality(fc, a)}}, []int{0, 1, 3}},
		{[]saying{{view{0, true}, piece{'P', 0, 0}}, {view{1, true}, piece{'P', 1, 0}}, {view{3, true}, equality(fc, a)}}, nil},
		{[]saying{{view{5, true}, equality(fa, a)}, {view{6, true}, equality(a, c)}, {view{7, false}, equality(fc, fa)}, {view{8, false}, equality(fc, a)}}, []int{6, 7}},
	} {
		objection := f.objection(test.said)
		var of []int
		for _, v := range objection {
			of = append(of, v.of)
			if !slices.ContainsFunc(test.said, func(s saying) bool { return s.view == v.not() }) {
				t.Errorf("objection to %v: %v, not the opposite of anything that is said", test.said, v)
			}
		}
		if !slices.Equal(of, test.want) {
			t.Errorf("objection to %v: %v, want %v", test.said, of, test.want)
		}
	}
}
