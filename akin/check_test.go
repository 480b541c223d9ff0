package akin_test

import (
	"strings"
	"testing"

	"akin/akin"
)

// times writes f done n times to a.
func times(n int) string { return strings.Repeat("f(", n) + "a" + strings.Repeat(")", n) }

// nested writes an equality within n brackets.
func nested(n int) string { return strings.Repeat("(", n) + "a=b" + strings.Repeat("&a=b)", n) }

// The names are constants of the package's own type, by the document's numbers.
func TestErrorNumbers(t *testing.T) {
	const ok, long, form, deep akin.Errno = akin.OK, akin.ErrLong, akin.ErrForm, akin.ErrDeep
	const many, arg, model, tape akin.Errno = akin.ErrMany, akin.ErrArg, akin.ErrModel, akin.ErrTape
	for want, got := range []akin.Errno{ok, long, form, deep, many, arg, model, tape} {
		if int(got) != want {
			t.Errorf("the error named %d-th is %d", want, got)
		}
	}
}

// The calls have the signatures that the document lists.
var (
	_ func(string) (akin.Errno, int)                       = akin.Check
	_ func(string) (string, akin.Errno)                    = akin.Parts
	_ func(string, string) (bool, akin.Errno)              = akin.Holds
	_ func(string) (int, akin.Errno)                       = akin.Count
	_ func(string, int, string) (bool, string, akin.Errno) = akin.Decide
)

type checkCase struct {
	formula string
	errno   akin.Errno
	place   int
}

func runCheckCases(t *testing.T, cases []checkCase) {
	t.Helper()
	for _, c := range cases {
		if errno, place := akin.Check(c.formula); errno != c.errno || place != c.place {
			t.Errorf("P3: Check(%.110q) = %d, %d, want %d, %d", c.formula, errno, place, c.errno, c.place)
		}
	}
}

func TestCheckTakesFormulas(t *testing.T) {
	for _, formula := range []string{
		"a=b", "e=d", "a=a", "P(a)", "Q(e)", "!a=b", "!!P(f(a))",
		"(a=b&c=d)", "(a=b|c=d)", "(a=b>c=d)", "(a=b-c=d)",
		"f(a)=g(b,c)", "g(f(a),g(a,b))=e", "((P(a)>Q(a))-!(a=b|!c=d))",
	} {
		runCheckCases(t, []checkCase{{formula, akin.OK, 0}})
	}
}

func TestCheckTellsThePlaceOfTheWrongByte(t *testing.T) {
	runCheckCases(t, []checkCase{
		{"a=h", akin.ErrForm, 2}, {"(a=b)", akin.ErrForm, 4}, {"a=b=c", akin.ErrForm, 3},
		{"x", akin.ErrForm, 0}, {"=a", akin.ErrForm, 0}, {")", akin.ErrForm, 0}, {"&", akin.ErrForm, 0},
		{"ab", akin.ErrForm, 1}, {"a(b)=c", akin.ErrForm, 1}, {"fa=b", akin.ErrForm, 1}, {"g(a;b)=c", akin.ErrForm, 3},
		{"a=(b)", akin.ErrForm, 2}, {"a=!b", akin.ErrForm, 2}, {"a==b", akin.ErrForm, 2},
		{"P=a", akin.ErrForm, 1}, {"P(a)P(b)", akin.ErrForm, 4}, {"P(!a)", akin.ErrForm, 2}, {"P((a))", akin.ErrForm, 2},
		{"Q(a=b)", akin.ErrForm, 3}, {"f(P(a))=a", akin.ErrForm, 2}, {"g(a,b,c)=a", akin.ErrForm, 5},
		{"(a=b+c=d)", akin.ErrForm, 4}, {"(a=b&&c=d)", akin.ErrForm, 5}, {"(a=b&c=d&e=e)", akin.ErrForm, 8},
		{"(a=b>=c)", akin.ErrForm, 5}, {"a=b)", akin.ErrForm, 3}, {"(a=b&c=d)a", akin.ErrForm, 9}, {"!(a=b)", akin.ErrForm, 5},
		{" a=b", akin.ErrForm, 0}, {"a=b\n", akin.ErrForm, 3}, {"\x00", akin.ErrForm, 0}, {"a=\x00", akin.ErrForm, 2},
		{"a=b\x00", akin.ErrForm, 3}, {"a\xff", akin.ErrForm, 1}, {"(a=b\u2227c=d)", akin.ErrForm, 4},
		{strings.Repeat("!", 99) + "x", akin.ErrForm, 99},
	})
}

// A text that a formula begins with, and no more, is refused at its length.
func TestCheckTellsTheLengthOfATextThatEndsEarly(t *testing.T) {
	runCheckCases(t, []checkCase{
		{"", akin.ErrForm, 0}, {"a=", akin.ErrForm, 2}, {"P(a", akin.ErrForm, 3},
		{strings.Repeat("!", 100), akin.ErrForm, 100}, {strings.Repeat("(", 8), akin.ErrForm, 8},
	})
	whole := "!((P(a)&!Q(f(b)))>(g(a,b)=f(b)-(a=b|b=a)))"
	runCheckCases(t, []checkCase{{whole, akin.OK, 0}})
	for length := range len(whole) {
		runCheckCases(t, []checkCase{{whole[:length], akin.ErrForm, length}})
	}
}

func TestCheckLength(t *testing.T) {
	full := strings.Repeat("!", 97) + "a=b"
	runCheckCases(t, []checkCase{
		{full, akin.OK, 0},
		{"!" + full, akin.ErrLong, 0},
		{full + "x", akin.ErrLong, 0},
		{"x" + full, akin.ErrLong, 0},
		{strings.Repeat("(", 101), akin.ErrLong, 0},
		{strings.Repeat("\u00e9", 50), akin.ErrForm, 0},
		{strings.Repeat("\u00e9", 51), akin.ErrLong, 0},
		{strings.Repeat("a", 50000000), akin.ErrLong, 0},
	})
}

func TestCheckDepth(t *testing.T) {
	runCheckCases(t, []checkCase{
		{nested(8), akin.OK, 0},
		{nested(9), akin.ErrDeep, 8},
		{strings.Repeat("(", 9), akin.ErrDeep, 8},
		{times(9) + "=a", akin.ErrDeep, 17},
		{"a=" + times(9), akin.ErrDeep, 19},
		{"P(" + times(8) + ")", akin.ErrDeep, 17},
		{strings.Repeat("!(", 9), akin.ErrDeep, 17},
		{strings.Repeat("(", 7) + "P(a)" + strings.Repeat("&a=b)", 7), akin.OK, 0},
		{strings.Repeat("(", 7) + "f(a)=a" + strings.Repeat("&a=b)", 7), akin.OK, 0},
		{strings.Repeat("(", 8) + "P(a)", akin.ErrDeep, 9},
		{strings.Repeat("(", 8) + "Q(a)", akin.ErrDeep, 9},
		{strings.Repeat("(", 8) + "f(a)=b", akin.ErrDeep, 9},
		{strings.Repeat("(", 8) + "g(a,b)=b", akin.ErrDeep, 9},
		{strings.Repeat("(", 8) + "a=g(a,b)", akin.ErrDeep, 11},
		{strings.Repeat("(", 7) + "g(a,f(a))", akin.ErrDeep, 12},
		// Brackets that are shut again are no longer around what follows.
		{"(((((((P(a)&P(a))&Q(f(a)))&a=b)&a=b)&a=b)&a=b)&(a=b|f(a)=f(b)))", akin.OK, 0},
		{"(" + times(5) + "=" + times(5) + "&" + times(5) + "=" + times(5) + ")", akin.OK, 0},
	})
}

func TestCheckNumberOfTerms(t *testing.T) {
	runCheckCases(t, []checkCase{
		{times(6) + "=a", akin.OK, 0},
		{times(7) + "=a", akin.ErrMany, 0},
		{times(8) + "=a", akin.ErrMany, 0},
		{"((a=b&c=d)&(e=f(a)&f(b)=f(b)))", akin.OK, 0},
		{"((a=b&c=d)&(e=f(a)&f(b)=f(c)))", akin.ErrMany, 0},
		{"((a=b&c=d)&(P(g(a,b))&Q(g(b,a))))", akin.OK, 0},
		{"((a=b&c=d)&(P(g(a,b))&g(a,a)=g(b,a)))", akin.OK, 0},
		{"((a=b&c=d)&(P(g(a,b))&g(a,a)=g(b,b)))", akin.OK, 0},
		{"((a=b&c=d)&(Q(e)&(P(g(a,b))&g(a,a)=g(b,b))))", akin.ErrMany, 0},
	})
}

func TestCheckNumberOfClaims(t *testing.T) {
	runCheckCases(t, []checkCase{
		{"((P(a)&P(b))&(Q(a)&Q(b)))", akin.OK, 0},
		{"(((P(a)&P(b))&(Q(a)&Q(b)))&(P(a)|Q(b)))", akin.OK, 0},
		{"(((P(a)&P(b))&(Q(a)&Q(b)))&P(c))", akin.ErrMany, 0},
		{"(((P(a)&P(b))&(Q(a)&Q(b)))&Q(f(a)))", akin.ErrMany, 0},
		{"((P(a)&P(b))&(P(c)&(P(d)&P(e))))", akin.ErrMany, 0},
	})
}

// Of a wrong form and too great a depth the one further left is told, and
// either ahead of too many terms or claims; too long a text ahead of all.
func TestCheckTellsTheFirstOfSeveralErrors(t *testing.T) {
	runCheckCases(t, []checkCase{
		{"(x" + strings.Repeat("(", 9), akin.ErrForm, 1},
		{strings.Repeat("(", 9) + "x", akin.ErrDeep, 8},
		{strings.Repeat("(", 8) + "x(", akin.ErrForm, 8},
		{strings.Repeat("(", 8) + "a(", akin.ErrForm, 9},
		{strings.Repeat("(", 8) + "a=(", akin.ErrForm, 10},
		{strings.Repeat("(", 8) + "Px", akin.ErrForm, 9},
		{strings.Repeat("(", 8) + "f", akin.ErrForm, 9},
		{times(8) + "=f(", akin.ErrForm, 28},
		{"(" + times(7) + "=a&", akin.ErrForm, 26},
		{"(" + times(7) + "=a)", akin.ErrForm, 25},
		{"(" + times(7) + "=a&" + times(8) + "=a)", akin.ErrDeep, 41},
		{"(((P(a)&P(b))&(Q(a)&Q(b)))&P(c)", akin.ErrForm, 31},
		{times(50), akin.ErrLong, 0},
	})
}
