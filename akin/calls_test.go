package akin_test

import (
	"strings"
	"testing"

	"akin/akin"
)

// decision is what Decide tells.
type decision struct {
	found bool
	model string
	errno akin.Errno
}

// answer is what all calls tell of a formula; a case is asked about too.
type answer struct {
	place, count                int
	text                        string
	holds                       bool
	check, parts, model, models akin.Errno
	decided                     [8]decision
}

func ask(formula, model string) (a answer) {
	a.check, a.place = akin.Check(formula)
	a.text, a.parts = akin.Parts(formula)
	a.holds, a.model = akin.Holds(formula, model)
	a.count, a.models = akin.Count(formula)
	for i, tape := range []string{"", "7", "9531862047", "x"} {
		for way := range 2 {
			d := &a.decided[2*i+way]
			d.found, d.model, d.errno = akin.Decide(formula, way, tape)
		}
	}
	return a
}

// P1: each call tells the error that Check tells, and nothing beside it.
func TestEachCallTellsTheErrorOfCheckAndNothingElse(t *testing.T) {
	for _, c := range []struct {
		formula string
		errno   akin.Errno
		place   int
	}{
		{"", akin.ErrForm, 0}, {"a=b=c", akin.ErrForm, 3}, {"\x00", akin.ErrForm, 0}, {"P(a)\xff", akin.ErrForm, 4},
		{nested(9), akin.ErrDeep, 8}, {"P(" + times(8) + ")", akin.ErrDeep, 17},
		{times(7) + "=a", akin.ErrMany, 0}, {"(((P(a)&P(b))&(Q(a)&Q(b)))&P(c))", akin.ErrMany, 0},
		{strings.Repeat("!", 98) + "a=b", akin.ErrLong, 0}, {strings.Repeat("(", 50000000), akin.ErrLong, 0},
	} {
		for _, model := range []string{"", "0/", "00/", "0/0", "01234567/", "012/11111", "x", strings.Repeat("0", 50000000)} {
			want := answer{place: c.place, check: c.errno, parts: c.errno, model: c.errno, models: c.errno}
			for i := range want.decided {
				want.decided[i].errno = c.errno
			}
			if got := ask(c.formula, model); got != want {
				t.Errorf("P1: of %.110q and %.20q %v, want %v", c.formula, model, got, want)
			}
		}
	}
}

// P2: what was asked in between, a refusal or other terms, leaves no trace.
func TestNothingIsKeptFromCallToCall(t *testing.T) {
	asked := []string{"a=b", times(7) + "=a", "b=a", "P(f(c))", "((P(a)&P(b))&(Q(a)&Q(b)))", "(P(b)-!P(a))", nested(9), "a=", times(4) + "=a", "f(a)=b", "", "e=d"}
	models := []string{"00/", "01/", "10/", "01/1", "00/11", "01/10", "01/0110", "01230/", "010/", ""}
	first := map[[2]string]answer{}
	for _, formula := range asked {
		for _, model := range models {
			first[[2]string{formula, model}] = ask(formula, model)
		}
	}
	for range 10 {
		// A map is gone through in another order each time.
		for both, want := range first {
			if got := ask(both[0], both[1]); got != want {
				t.Errorf("P2: of %q first %v, then %v", both, want, got)
			}
		}
	}
}
