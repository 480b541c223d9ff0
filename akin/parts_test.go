package akin_test

import (
	"strings"
	"testing"

	"akin/akin"
)

func TestParts(t *testing.T) {
	for _, c := range []struct{ formula, want string }{
		{"a=a", "a/"},
		{"b=a", "b a/"},
		{"P(a)", "a/P(a)"},
		{"Q(f(e))", "e f(e)/Q(f(e))"},
		{"(f(g(a,b))=b>(P(c)|P(f(a))))", "a b g(a,b) f(g(a,b)) c f(a)/P(c) P(f(a))"},
		{"f(f(a))=a", "a f(a) f(f(a))/"},
		{"f(a)=f(b)", "a f(a) b f(b)/"},
		{"g(b,a)=g(a,b)", "b a g(b,a) g(a,b)/"},
		{"g(g(a,a),f(a))=g(a,g(a,a))", "a g(a,a) f(a) g(g(a,a),f(a)) g(a,g(a,a))/"},
		{"(c=b&(b=a&a=c))", "c b a/"},
		{"(Q(b)>(P(b)>(Q(b)>P(a))))", "b a/Q(b) P(b) P(a)"},
		{"!!(P(a)-!P(a))", "a/P(a)"},
		{"((a=b&c=d)&(e=f(a)&f(b)=f(b)))", "a b c d e f(a) f(b)/"},
		{times(6) + "=a", "a f(a) f(f(a)) f(f(f(a))) f(f(f(f(a)))) f(f(f(f(f(a))))) f(f(f(f(f(f(a))))))/"},
		{"((Q(b)&P(b))&(Q(a)&P(a)))", "b a/Q(b) P(b) Q(a) P(a)"},
		{strings.Repeat("!", 97) + "e=d", "e d/"},
	} {
		if got, errno := akin.Parts(c.formula); got != c.want || errno != akin.OK {
			t.Errorf("P4: Parts(%q) = %q, %d, want %q", c.formula, got, errno, c.want)
		}
	}
}

func TestPartsTellsTheErrorOfCheckAndNoText(t *testing.T) {
	for _, c := range []struct {
		formula string
		errno   akin.Errno
	}{
		{"", akin.ErrForm},
		{"a=", akin.ErrForm},
		{"a=b=c", akin.ErrForm},
		{"P(a)Q(a)", akin.ErrForm},
		{strings.Repeat("(", 9), akin.ErrDeep},
		{times(9) + "=a", akin.ErrDeep},
		{times(7) + "=a", akin.ErrMany},
		{"(((P(a)&P(b))&(Q(a)&Q(b)))&P(c))", akin.ErrMany},
		{strings.Repeat("!", 98) + "a=b", akin.ErrLong},
		{strings.Repeat("x", 50000000), akin.ErrLong},
	} {
		if got, errno := akin.Parts(c.formula); got != "" || errno != c.errno {
			t.Errorf("P4: Parts(%.110q) = %q, %d, want no text and %d", c.formula, got, errno, c.errno)
		}
	}
}
