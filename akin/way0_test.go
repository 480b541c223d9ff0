package akin

import "testing"

// Where what follows from equality is plain logic, as many truths keep its
// rules as the formula has models.
func TestPlainLogicOfEverythingHasAsManyTruthsAsModels(t *testing.T) {
	for _, text := range []string{
		"a=a", "!a=a", "a=b", "(a=b|b=c)", "(b=a-a=b)", "!(a=b&b=a)", "(P(a)-P(b))", "(P(a)|!Q(a))", "!!(a=b>P(a))",
		"(f(f(a))=a&!f(a)=a)", "(a=b&!f(a)=f(b))", "(f(a)=b|f(b)=a)", "(g(a,b)=a-P(g(a,b)))", "(g(a,a)=b&!f(a)=b)",
		"!f(f(f(a)))=a", "(f(a)=f(b)>P(a))", "g(a,b)=g(b,a)", "!g(a,b)=g(b,b)", "!g(a,b)=g(a,a)", "!g(a,a)=g(b,a)", "(P(a)&(P(b)-!P(c)))", "((a=b-b=c)-(c=d-a=d))",
	} {
		f, errno, _ := read(text)
		if errno != OK {
			t.Fatalf("%q: %d", text, errno)
		}
		l := f.logicAhead()
		if got, want := kept(len(l.unknowns), l.rules), f.countModels(); got != want {
			t.Errorf("%d truths keep the rules of %q, want %d", got, text, want)
		}
	}
}
