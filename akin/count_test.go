package akin_test

import (
	"strings"
	"testing"

	"akin/akin"
)

func runCountCases(t *testing.T, errno akin.Errno, want map[string]int) {
	t.Helper()
	for formula, count := range want {
		if got, gotErrno := akin.Count(formula); got != count || gotErrno != errno {
			t.Errorf("P6: Count(%.110q) = %d, %d, want %d, %d", formula, got, gotErrno, count, errno)
		}
	}
}

func TestCount(t *testing.T) {
	runCountCases(t, akin.OK, map[string]int{
		"a=a": 1, "!a=a": 0, "a=b": 1, "!a=b": 1, "(a=b|!a=b)": 2, "(a=b&!a=b)": 0,
		"(a=b|b=c)": 3, "(a=b&b=c)": 1, "(a=b&!b=c)": 1, "!(a=b|(b=c|a=c))": 1,
		"P(a)": 1, "(P(a)|!P(a))": 2, "(P(a)&!P(a))": 0,
		"(P(a)&(!P(b)&a=b))": 0, "(P(a)&!P(b))": 1, "(P(a)-P(b))": 4, "(P(a)>P(b))": 5, "(P(a)|P(b))": 4, "(P(a)&Q(b))": 2,
		"(Q(a)-Q(b))": 4, "(P(a)-Q(b))": 4, "(P(a)&!P(f(a)))": 1,
	})
}

// Cases that are not sound are not counted.
func TestCountAsksWhatFunctionsMake(t *testing.T) {
	runCountCases(t, akin.OK, map[string]int{
		"(a=b&!f(a)=f(b))": 0, "(a=b&f(a)=f(b))": 2, "f(a)=f(a)": 2, "f(f(a))=f(f(a))": 4,
		"(f(f(a))=a&!f(a)=a)": 1, "(f(f(f(a)))=a&(f(f(a))=a&!f(a)=a))": 0, "(f(f(f(a)))=a&!f(a)=a)": 1,
		"g(a,b)=a": 2, "!g(a,b)=g(b,a)": 7, "(a=b&!g(a,b)=g(b,a))": 0, "(a=b&!g(a,b)=g(b,b))": 0,
		"(a=b&!g(a,c)=g(b,c))": 0, "(a=b&!g(c,a)=g(c,b))": 0, "(a=b&!f(a)=g(b,a))": 3,
	})
}

func TestCountOfAsManyTermsAndClaimsAsThereMayBe(t *testing.T) {
	runCountCases(t, akin.OK, map[string]int{
		// Names can be put into classes in 2, 5, 15, 52 ways.
		"(a=a&b=b)": 2, "(a=a&(b=b&c=c))": 5, "(a=a&(b=b&(c=c&d=d)))": 15, "(a=a&(b=b&(c=c&(d=d&e=e))))": 52,
		"((a=a&(b=b&(c=c&(d=d&e=e))))&!(a=b|a=c))": 52 - 15 - 15 + 5,
		// A property holds or not of each class: 1 way to one class, 7 to two, 6 to three, 1 to four.
		"((P(a)|!P(a))|((P(b)&P(c))&P(d)))": 1*2 + 7*4 + 6*8 + 1*16,
		"((P(a)|P(b))|!(P(c)&P(d)))":        1*2 + 7*4 + 6*8 + 1*16 - 4,
		// A tower of seven goes back to one ahead of it, from the second on, or never.
		"(" + times(6) + "=a|!" + times(6) + "=a)": 1 + 1 + 2 + 3 + 4 + 5 + 6,
		times(6) + "=a":                 4,
		"!" + times(6) + "=" + times(5): 22 - 6,
		// All equal; and four apart, with f(a) and f(b) two of these or others.
		"((a=b&b=c)&((c=d&d=e)&(e=f(a)&f(a)=f(b))))":     1,
		"!(((a=b|a=c)|(a=d|b=c))|((b=d|c=d)|f(a)=f(b)))": 4*3 + 4 + 4 + 1,
		// Seven terms have 877 ways, less those in which a is b and f(a) not f(b).
		fullNames: 877 - (203 - 52),
		// f(a) is a, and both claims of it are as one; or the circle is of 2, 3 or 6.
		fullTower: 2 + 3*(16-3*2),
	})
}

func TestCountTellsTheErrorOfCheck(t *testing.T) {
	runCountCases(t, akin.ErrForm, map[string]int{"": 0, "a": 0, "a=": 0, "(a=b)": 0, "a=b ": 0, "a=b/": 0})
	runCountCases(t, akin.ErrLong, map[string]int{strings.Repeat("!", 98) + "a=b": 0, strings.Repeat("(", 50000000): 0})
	runCountCases(t, akin.ErrDeep, map[string]int{strings.Repeat("(", 9): 0, nested(9): 0, times(9) + "=a": 0})
	runCountCases(t, akin.ErrMany, map[string]int{times(7) + "=a": 0, "((P(a)&P(b))&(P(c)&(P(d)&P(e))))": 0})
}
