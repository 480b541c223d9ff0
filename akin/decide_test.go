package akin_test

import (
	"math"
	"math/rand"
	"strings"
	"testing"

	"akin/akin"
)

// someTapes are short and full ones, even and odd, and none.
func someTapes() []string {
	tapes := []string{"", "9753186420", "135", strings.Repeat("0123456789", 6), strings.Repeat("27", 30)}
	for _, digit := range "0123456789" {
		tapes = append(tapes, string(digit), strings.Repeat(string(digit), 60))
	}
	return tapes
}

// allTapes are all tapes of up to n digits.
func allTapes(n int) []string {
	tapes := []string{""}
	for begun := 0; n > 0; n-- {
		all := len(tapes)
		for _, tape := range tapes[begun:] {
			for _, digit := range "0123456789" {
				tapes = append(tapes, tape+string(digit))
			}
		}
		begun = all
	}
	return tapes
}

// decideBy asks Decide, both ways, and tells the models that it tells. What it
// tells must be a model, or nothing, just as wanted.
func decideBy(t *testing.T, formula string, want bool, tapes []string) map[string]int {
	t.Helper()
	models := map[string]int{}
	for way := range 2 {
		for _, tape := range tapes {
			found, model, errno := akin.Decide(formula, way, tape)
			if found != want || errno != akin.OK || !found && model != "" {
				t.Errorf("P7: Decide(%q, %d, %q) = %v, %q, %d, want %v", formula, way, tape, found, model, errno, want)
				return nil
			}
			if models[model]++; !found || models[model] > 1 {
				continue
			}
			if holds, errno := akin.Holds(formula, model); !holds || errno != akin.OK {
				t.Errorf("P7: Decide(%q, %d, %q) tells %q, of which Holds tells %v, %d", formula, way, tape, model, holds, errno)
			}
		}
	}
	return models
}

// decideAlike asks Decide with some tapes.
func decideAlike(t *testing.T, formula string, want bool) {
	t.Helper()
	decideBy(t, formula, want, someTapes())
}

// Where there is one model, each way must tell it with each tape.
func TestDecideTellsTheOnlyModel(t *testing.T) {
	for formula, want := range map[string]string{
		"!a=b": "01/", "a=a": "0/", "a=b": "00/", "(P(a)&!P(b))": "01/10", "(f(f(a))=a&!f(a)=a)": "010/",
		"P(a)": "0/1", "!Q(a)": "0/0", "(Q(a)&(!P(a)&!Q(b)))": "01/100", "!!!b=e": "01/",
		"(" + times(3) + "=a&!" + times(1) + "=a)": "0120/",
		"(g(a,b)=a&(g(b,a)=b&!a=b))":               "0101/",
		"((a=b&b=c)&(c=d&d=e))":                    "00000/",
		"((!a=b&!b=c)&(c=a&P(c)))":                 "010/1",
		"(a=b&(b=f(a)&g(a,f(b))=f(f(a))))":         "000000/",
		"(a=b&((P(a)&!Q(b))&(P(b)>!Q(a))))":        "00/1010",
	} {
		models := decideBy(t, formula, true, allTapes(2))
		if len(models) != 1 || models[want] == 0 {
			t.Errorf("P7: Decide of %q tells %v, want %q", formula, models, want)
		}
	}
}

func TestDecideTellsThatThereIsNoModel(t *testing.T) {
	for _, formula := range []string{
		"(a=b&!f(a)=f(b))", "(P(a)&(!P(b)&a=b))", "(f(f(f(a)))=a&(f(f(a))=a&!f(a)=a))",
		// What equal should be.
		"!a=a", "!f(a)=f(a)", "!g(a,b)=g(a,b)", "(a=b&!b=a)", "((a=b&b=c)&!a=c)", "((a=b&c=b)&!c=a)", "(((a=b&b=c)&(c=d&d=e))&!e=a)",
		// What functions make of the same, at either place and many times.
		"(a=b&!g(a,c)=g(b,c))", "(a=b&!g(c,a)=g(c,b))", "((a=b&c=d)&!g(a,c)=g(b,d))", "(a=b&!f(f(a))=f(f(b)))",
		"(" + times(5) + "=a&(" + times(3) + "=a&!" + times(1) + "=a))", "(f(a)=b&(f(b)=c&(f(c)=a&(a=b&!a=c))))",
		// What properties hold of.
		"((P(a)-!P(b))&a=b)", "(!Q(a)&(Q(b)&b=a))", "(P(f(a))&(!P(f(b))&a=b))", "((Q(f(a))&!Q(b))&(f(a)=c&c=b))",
		// Nothing but plain logic.
		"(P(a)&!P(a))", "!(a=b-a=b)", "!(a=b>a=b)", "((a=b|c=d)&(!a=b&!c=d))", "(P(a)-!P(a))", "((P(a)-P(b))&((P(b)-P(c))&(P(a)-!P(c))))",
		// Whatever of several is chosen.
		"((a=b|a=c)&(!f(a)=f(b)&!f(a)=f(c)))", "((a=b-b=c)&((b=c-a=c)&(a=b-!a=c)))", "((P(a)&(!P(b)&!P(c)))&(a=b|a=c))",
	} {
		decideBy(t, formula, false, append(allTapes(2), someTapes()...))
	}
}

func TestDecideTellsAModelAmongMany(t *testing.T) {
	for _, formula := range []string{
		"(a=b|b=c)", "(P(a)-P(b))", "(P(a)>Q(b))", "!(a=b&P(c))", "(g(a,b)=g(b,a)&!a=b)", "(f(a)=f(b)&!a=b)",
		"!g(a,b)=g(a,c)", "!g(a,b)=g(c,b)", "(a=b&!g(a,c)=g(b,d))", "(a=b&!g(c,a)=g(d,b))", "(a=b&!f(a)=g(b,a))", "(a=b&(P(a)&!Q(b)))",
		"((a=b-b=c)&(b=c-c=d))", "!(a=b-(b=c-(a=c-a=d)))", "((a=b>!c=d)&((c=d>!a=b)&(a=b|c=d)))",
		"(!a=b&(!b=c&(!c=a&(P(a)&(P(b)&!P(c))))))", "(a=a-b=b)", fullNames, fullTower, nested(8), times(6) + "=a",
		strings.Repeat("!", 97) + "a=b", strings.Repeat("!", 96) + "P(a)",
	} {
		decideBy(t, formula, true, append(allTapes(2), someTapes()...))
	}
}

// Formulas at which the search goes back and begins anew often.
func TestDecideOfFormulasThatAreHardToSettle(t *testing.T) {
	for _, formula := range []string{
		"((((c=a|Q(b))-(P(d)-Q(d)))-((a=e-!e=d)-(d=d&c=d)))&(d=b&(((a=a>b=d)-(!c=b-b=a))-(a=b-(c=b|b=c)))))",
		"((((e=a-P(f(b)))-(f(b)=f(a)-b=a))&(f(a)=b-!f(b)=a))&(((a=f(a)>f(b)=a)-b=a)|(b=a-(!f(b)=b-!b=f(b)))))",
		"((((c=a|d=a)-(d=b|a=a))&((!a=c&c=c)-(e=e&!b=d)))-((!a=b-(e=e-(a=e-!e=a)))-((e=e|c=c)-(a=b|a=d))))",
		"((((Q(d)&Q(f(b)))|f(a)=a)>((a=f(a)&!a=f(a))&!e=f(a)))-((f(a)=f(b)-(e=f(b)>!f(b)=e))|(b=a-b=a)))",
	} {
		count, errno := akin.Count(formula)
		if errno != akin.OK {
			t.Errorf("%q is refused: %d", formula, errno)
		}
		decideBy(t, formula, count > 0, append(allTapes(2), someTapes()...))
	}
}

// The order in which a map is gone through differs from call to call; it must
// not be seen in the model.
func TestDecideTellsTheSameModelAgain(t *testing.T) {
	for _, formula := range []string{
		fullNames, fullTower, "((a=b|b=c)&((c=d|d=a)&((a=c>P(a))&(b=d-!P(b)))))", "((a=b-b=c)-((c=d-d=e)-(a=e-b=d)))",
		"((((c=a|d=a)-(d=b|a=a))&((!a=c&c=c)-(e=e&!b=d)))-((!a=b-(e=e-(a=e-!e=a)))-((e=e|c=c)-(a=b|a=d))))",
		"((f(a)=f(b)|f(b)=b)&((a=b|f(a)=a)&(P(a)-!P(f(b)))))",
	} {
		for way := range 2 {
			for _, tape := range someTapes() {
				_, first, _ := akin.Decide(formula, way, tape)
				for range 20 {
					if _, again, _ := akin.Decide(formula, way, tape); again != first {
						t.Fatalf("P2: Decide(%q, %d, %q) tells %q, then %q", formula, way, tape, first, again)
					}
				}
			}
		}
	}
}

// The tape tells which model it is.
func TestDecideIsSteeredByTheTape(t *testing.T) {
	for _, formula := range []string{"(a=b|b=c)", "(P(a)|P(b))", "(P(a)-P(b))", "(f(a)=f(b)|P(a))"} {
		for way := range 2 {
			models := map[string]int{}
			for _, tape := range allTapes(2) {
				_, model, _ := akin.Decide(formula, way, tape)
				models[model]++
			}
			if len(models) < 2 {
				t.Errorf("Decide of %q by way %d tells %v, whatever the tape", formula, way, models)
			}
		}
	}
}

func refuse(t *testing.T, formula string, way int, tape string, want akin.Errno) {
	t.Helper()
	if found, model, errno := akin.Decide(formula, way, tape); found || model != "" || errno != want {
		t.Errorf("P7: Decide(%.110q, %d, %.70q) = %v, %q, %d, want %d", formula, way, tape, found, model, errno, want)
	}
}

func TestDecideRefusesOtherWays(t *testing.T) {
	for _, way := range []int{-1, 2, 3, 10, -2, 48, 49, 255, 256, 257, 1 << 32, 1<<32 + 1, -1 << 32, math.MaxInt, math.MinInt, math.MinInt + 1} {
		for _, tape := range []string{"", "0", strings.Repeat("1", 60), "x", strings.Repeat("1", 61)} {
			refuse(t, "a=b", way, tape, akin.ErrArg)
			refuse(t, "!a=a", way, tape, akin.ErrArg)
		}
	}
}

func TestDecideRefusesOtherTapes(t *testing.T) {
	for way := range 2 {
		for length := 61; length < 70; length++ {
			refuse(t, "a=b", way, strings.Repeat("0", length), akin.ErrTape)
			refuse(t, "!a=a", way, strings.Repeat("x", length), akin.ErrTape)
		}
		refuse(t, "a=b", way, strings.Repeat("1", 50000000), akin.ErrTape)
		refuse(t, "a=b", way, strings.Repeat("\u0661", 30), akin.ErrTape)
		for b := range 256 {
			one := string([]byte{byte(b)})
			for _, tape := range []string{one, "12" + one, one + "12", "1" + one + "2", strings.Repeat("5", 59) + one, one + strings.Repeat("5", 59)} {
				if b >= '0' && b <= '9' {
					decideBy(t, "(a=b|b=c)", true, []string{tape})
				} else {
					refuse(t, "(a=b|b=c)", way, tape, akin.ErrTape)
					refuse(t, "!a=a", way, tape, akin.ErrTape)
				}
			}
		}
	}
}

// The error of Check is told ahead of a wrong way, and that ahead of a wrong
// tape.
func TestDecideTellsTheFirstOfSeveralErrors(t *testing.T) {
	for _, way := range []int{0, 1, 2, -1} {
		for _, tape := range []string{"", "0", "x", strings.Repeat("0", 61)} {
			refuse(t, strings.Repeat("!", 98)+"a=b", way, tape, akin.ErrLong)
			refuse(t, strings.Repeat("(", 50000000), way, tape, akin.ErrLong)
			refuse(t, "", way, tape, akin.ErrForm)
			refuse(t, "a=", way, tape, akin.ErrForm)
			refuse(t, nested(9), way, tape, akin.ErrDeep)
			refuse(t, times(7)+"=a", way, tape, akin.ErrMany)
			refuse(t, "((P(a)&P(b))&(P(c)&(P(d)&P(e))))", way, tape, akin.ErrMany)
		}
	}
	refuse(t, "a=b", 2, "", akin.ErrArg)
	refuse(t, "a=b", 2, "x", akin.ErrArg)
	refuse(t, "a=b", 0, "x", akin.ErrTape)
	refuse(t, "a=b", 1, "x", akin.ErrTape)
}

// drawn puts a formula together of atoms of some terms, in so many bytes.
func drawn(r *rand.Rand, terms []string, room, depth int) string {
	first, second := terms[r.Intn(len(terms))], terms[r.Intn(len(terms))]
	if room < 15 || depth == 0 {
		return []string{first + "=" + second, "!" + first + "=" + second, "P(" + first + ")", first + "=" + second, "!Q(" + second + ")"}[r.Intn(5)]
	}
	left := drawn(r, terms, (room-3)/2, depth-1)
	return "(" + left + string("&&|>-"[r.Intn(5)]) + drawn(r, terms, room-3-len(left), depth-1) + ")"
}

// Formulas as great as they may be, too many to look at all their cases a
// second way, are held against Count, which is tested so.
func TestDecideOfManyGreatFormulas(t *testing.T) {
	r := rand.New(rand.NewSource(7))
	asked := map[bool]int{}
	for _, terms := range [][]string{
		{"a", "b", "c"}, {"a", "b", "c", "d", "e"}, {"a", "b", "f(a)", "f(b)"}, {"a", times(1), times(2), times(3), times(4)},
		{"a", "b", "g(a,b)", "g(b,a)", "f(a)"}, {"a", "b", "c", "g(a,b)", "g(a,c)", "g(c,c)"}, {"a", "f(a)", "g(a,f(a))", "b", "f(g(a,f(a)))"},
	} {
		for range 150 {
			formula := drawn(r, terms, 20+r.Intn(80), 5)
			count, errno := akin.Count(formula)
			if errno == akin.OK {
				asked[count > 0]++
				decideAlike(t, formula, count > 0)
			}
		}
	}
	if asked[true] < 300 || asked[false] < 30 {
		t.Errorf("too few formulas were asked: %v", asked)
	}
}
