package akin_test

import (
	"strings"
	"testing"

	"akin/akin"
)

// Formulas with as many terms and claims as there may be.
const (
	fullNames = "(((P(a)&P(b))&(Q(c)&Q(d)))&(e=f(a)|f(b)=f(b)))"
	fullTower = "(f(f(f(f(f(f(a))))))=a&((P(a)|Q(a))>(P(f(a))-Q(f(a)))))"
)

type holdsCase struct {
	formula, model string
	want           bool
	errno          akin.Errno
}

func runHoldsCases(t *testing.T, cases []holdsCase) {
	t.Helper()
	for _, c := range cases {
		if got, errno := akin.Holds(c.formula, c.model); got != c.want || errno != c.errno {
			t.Errorf("P5: Holds(%.110q, %.30q) = %v, %d, want %v, %d", c.formula, c.model, got, errno, c.want, c.errno)
		}
	}
}

func TestHoldsTellsWhetherTheFormulaIsTrue(t *testing.T) {
	runHoldsCases(t, []holdsCase{
		{"a=b", "00/", true, akin.OK}, {"a=b", "01/", false, akin.OK},
		{"!a=b", "00/", false, akin.OK}, {"!a=b", "01/", true, akin.OK},
		{"!!a=b", "00/", true, akin.OK}, {"!!a=b", "01/", false, akin.OK},
		{"a=a", "0/", true, akin.OK}, {"!a=a", "0/", false, akin.OK},
		{"(a=b|b=c)", "000/", true, akin.OK}, {"(a=b|b=c)", "001/", true, akin.OK}, {"(a=b|b=c)", "011/", true, akin.OK},
		{"(a=b|b=c)", "010/", false, akin.OK}, {"(a=b|b=c)", "012/", false, akin.OK},
		{"P(a)", "0/1", true, akin.OK}, {"P(a)", "0/0", false, akin.OK},
		{"Q(f(a))", "01/1", true, akin.OK}, {"Q(f(a))", "00/0", false, akin.OK},
		{"(Q(b)&!P(a))", "01/10", true, akin.OK}, {"(Q(b)&!P(a))", "01/01", false, akin.OK},
		{"(P(a)&(!P(b)&a=b))", "01/10", false, akin.OK},
		{strings.Repeat("!", 97) + "a=b", "01/", true, akin.OK}, {strings.Repeat("!", 96) + "a=b", "01/", false, akin.OK},
	})
}

// Each sign between two formulas, at all four ways both may be.
func TestHoldsOfEachSign(t *testing.T) {
	for _, c := range []struct {
		formula string
		truths  [4]bool
	}{
		{"(P(a)&Q(a))", [4]bool{false, false, false, true}},
		{"(P(a)|Q(a))", [4]bool{false, true, true, true}},
		{"(P(a)>Q(a))", [4]bool{true, true, false, true}},
		{"(P(a)-Q(a))", [4]bool{true, false, false, true}},
	} {
		for at, model := range []string{"0/00", "0/01", "0/10", "0/11"} {
			runHoldsCases(t, []holdsCase{{c.formula, model, c.truths[at], akin.OK}})
		}
	}
}

// A case that is not sound is a written case all the same, and no model, even
// where the formula is true in it.
func TestHoldsTellsFalseOfCasesThatAreNotSound(t *testing.T) {
	runHoldsCases(t, []holdsCase{
		{"(a=b&!f(a)=f(b))", "0012/", false, akin.OK},
		{"(a=b|f(a)=f(b))", "0012/", false, akin.OK}, {"(a=b|f(a)=f(b))", "0011/", true, akin.OK},
		{"!f(a)=f(b)", "0102/", false, akin.OK}, {"!f(a)=f(b)", "0121/", false, akin.OK}, {"!f(a)=f(b)", "0120/", true, akin.OK},
		// f(a) is b and f(b) is not f(f(a)).
		{"(f(f(a))=a|f(b)=b)", "01012/", false, akin.OK},
		{"(f(f(a))=a&!f(a)=a)", "010/", true, akin.OK}, {"f(f(a))=f(f(a))", "001/", false, akin.OK}, {"f(f(a))=f(f(a))", "000/", true, akin.OK},
		{"(f(f(f(a)))=a&(f(f(a))=a&!f(a)=a))", "0100/", false, akin.OK},
		// Both terms within g must be equal, each to the one at its place.
		{"!g(a,c)=g(b,c)", "01203/", false, akin.OK}, {"!g(a,c)=g(b,c)", "01234/", true, akin.OK}, {"!g(a,c)=g(b,c)", "00123/", true, akin.OK},
		{"!g(c,a)=g(c,b)", "01213/", false, akin.OK}, {"!g(c,a)=g(c,b)", "01203/", true, akin.OK}, {"!g(c,a)=g(c,b)", "01234/", true, akin.OK},
		{"!g(a,b)=g(b,a)", "0012/", false, akin.OK}, {"!g(a,b)=g(b,a)", "0123/", true, akin.OK},
		// The same terms within f and g make no equal terms.
		{"!f(a)=g(a,a)", "012/", true, akin.OK}, {"f(a)=g(a,a)", "011/", true, akin.OK},
		{"(P(a)&!P(b))", "01/10", true, akin.OK}, {"(P(a)&!P(b))", "00/10", false, akin.OK},
		{"(P(a)&!Q(b))", "00/10", true, akin.OK}, {"(Q(a)&!Q(b))", "00/10", false, akin.OK},
		{"(P(a)|(P(b)|P(c)))", "010/110", false, akin.OK}, {"(P(a)|(P(b)|P(c)))", "010/101", true, akin.OK},
		{"(P(a)&!P(f(a)))", "00/10", false, akin.OK}, {"(P(a)&!P(f(a)))", "01/10", true, akin.OK},
	})
}

func TestHoldsRefusesTheWrongNumberOfDigits(t *testing.T) {
	runHoldsCases(t, []holdsCase{
		{"a=b", "0/", false, akin.ErrModel}, {"a=b", "00", false, akin.ErrModel}, {"a=b", "00/0", false, akin.ErrModel},
		{"a=b", "", false, akin.ErrModel}, {"a=b", "/", false, akin.ErrModel}, {"a=b", "000/", false, akin.ErrModel},
		{"a=b", "000", false, akin.ErrModel}, {"a=b", "0/0", false, akin.ErrModel}, {"a=b", "/00", false, akin.ErrModel},
		{"a=b", "00//", false, akin.ErrModel}, {"a=b", "00/ ", false, akin.ErrModel}, {"a=b", " 00/", false, akin.ErrModel},
		{"P(a)", "0/", false, akin.ErrModel}, {"P(a)", "0/11", false, akin.ErrModel}, {"P(a)", "01/1", false, akin.ErrModel},
		{"P(a)", "0/1\n", false, akin.ErrModel}, {"P(a)", "011", false, akin.ErrModel}, {"P(f(a))", "0/10", false, akin.ErrModel},
		{"a=b", strings.Repeat("0", 50000000), false, akin.ErrModel},
		{"a=b", "00/" + strings.Repeat("0", 50000000), false, akin.ErrModel},
	})
}

func TestHoldsRefusesClassesNumberedOtherwise(t *testing.T) {
	runHoldsCases(t, []holdsCase{
		{"a=b", "10/", false, akin.ErrModel}, {"a=b", "11/", false, akin.ErrModel}, {"a=b", "02/", false, akin.ErrModel},
		{"a=b", "12/", false, akin.ErrModel}, {"a=b", "09/", false, akin.ErrModel}, {"a=a", "1/", false, akin.ErrModel},
		{"(a=b|b=c)", "021/", false, akin.ErrModel}, {"(a=b|b=c)", "013/", false, akin.ErrModel}, {"(a=b|b=c)", "002/", false, akin.ErrModel},
		{"(a=b|b=c)", "022/", false, akin.ErrModel}, {"(a=b|b=c)", "100/", false, akin.ErrModel}, {"(a=b|b=c)", "110/", false, akin.ErrModel},
	})
}

func TestHoldsRefusesOtherBytes(t *testing.T) {
	runHoldsCases(t, []holdsCase{
		{"a=b", "0x/", false, akin.ErrModel}, {"a=b", "xx/", false, akin.ErrModel}, {"a=b", "0//", false, akin.ErrModel},
		{"a=b", "///", false, akin.ErrModel}, {"a=b", "00:", false, akin.ErrModel}, {"a=b", "00\x00", false, akin.ErrModel},
		{"a=b", "0\x00/", false, akin.ErrModel}, {"a=b", "0\xff/", false, akin.ErrModel}, {"a=b", "0-1", false, akin.ErrModel},
		{"P(a)", "0/2", false, akin.ErrModel}, {"P(a)", "0/x", false, akin.ErrModel}, {"P(a)", "0//", false, akin.ErrModel},
		{"P(a)", "0/\x01", false, akin.ErrModel}, {"P(a)", "0/\xb1", false, akin.ErrModel}, {"a=b", "\u0660/", false, akin.ErrModel},
	})
}

func TestHoldsOfAsManyTermsAndClaimsAsThereMayBe(t *testing.T) {
	runHoldsCases(t, []holdsCase{
		{fullNames, "0123456/1111", true, akin.OK}, {fullNames, "0123456/1110", false, akin.OK},
		{fullNames, "0000000/1111", true, akin.OK}, {fullNames, "0011222/1111", true, akin.OK},
		{fullNames, "0011223/1111", false, akin.OK}, {fullNames, "0123457/1111", false, akin.ErrModel},
		{fullNames, "012345/1111", false, akin.ErrModel}, {fullNames, "01234567/1111", false, akin.ErrModel},
		{fullNames, "0123456/111", false, akin.ErrModel}, {fullNames, "0123456/11111", false, akin.ErrModel},
		{fullTower, "0123450/1111", true, akin.OK}, {fullTower, "0101010/1000", true, akin.OK},
		{fullTower, "0101010/1010", false, akin.OK}, {fullTower, "0120120/0010", true, akin.OK},
		{fullTower, "0123456/1111", false, akin.OK}, {fullTower, "0123410/1111", false, akin.OK},
		{fullTower, "0000000/1111", true, akin.OK}, {fullTower, "0000000/1011", false, akin.OK},
	})
}

// The error of Check is told ahead of a wrong case; the text that is no case
// is told ahead of anything that it might mean.
func TestHoldsTellsTheFirstOfSeveralErrors(t *testing.T) {
	for _, model := range []string{"", "00/", "x", strings.Repeat("0", 1000)} {
		runHoldsCases(t, []holdsCase{
			{"", model, false, akin.ErrForm}, {"a=", model, false, akin.ErrForm}, {"a=b)", model, false, akin.ErrForm},
			{strings.Repeat("!", 98) + "a=b", model, false, akin.ErrLong}, {strings.Repeat("x", 50000000), model, false, akin.ErrLong},
			{nested(9), model, false, akin.ErrDeep}, {times(9) + "=a", model, false, akin.ErrDeep},
			{times(7) + "=a", model, false, akin.ErrMany}, {"((P(a)&P(b))&(P(c)&(P(d)&P(e))))", model, false, akin.ErrMany},
		})
	}
	runHoldsCases(t, []holdsCase{
		{times(7) + "=a", "01234567/", false, akin.ErrMany},
		{"((P(a)&P(b))&(P(c)&(P(d)&P(e))))", "01234/11111", false, akin.ErrMany},
		{"(a=b&!f(a)=f(b))", "0013/", false, akin.ErrModel},
	})
}
