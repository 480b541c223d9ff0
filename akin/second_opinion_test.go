package akin_test

import (
	"slices"
	"strings"
	"testing"

	"akin/akin"
)

// needs tells, for what is awaited and the byte that comes, what is awaited in
// its stead; what is awaited is F, a formula, T, a term, J, a sign between two
// formulas, or a byte itself. It is the grammar as a table.
func needs(awaited, came byte) (string, bool) {
	names, joints := "abcde", "&|>-"
	switch {
	case awaited == 'F' && came == '!':
		return "F", true
	case awaited == 'F' && came == '(':
		return "FJF)", true
	case awaited == 'F' && (came == 'P' || came == 'Q'):
		return "(T)", true
	case awaited == 'F':
		rest, ok := needs('T', came)
		return rest + "=T", ok
	case awaited == 'T' && came == 'f':
		return "(T)", true
	case awaited == 'T' && came == 'g':
		return "(T,T)", true
	case awaited == 'T':
		return "", strings.IndexByte(names, came) >= 0
	case awaited == 'J':
		return "", strings.IndexByte(joints, came) >= 0
	}
	return "", awaited == came
}

// opinion tells what Check and Parts should, by a list of what is awaited and
// by looking for terms and claims in the text, not by walking the grammar.
func opinion(text string) (akin.Errno, int, string) {
	if len(text) > 100 {
		return akin.ErrLong, 0, ""
	}
	awaited := "F"
	for i := range len(text) {
		if awaited == "" {
			return akin.ErrForm, i, ""
		}
		rest, ok := needs(awaited[0], text[i])
		if !ok {
			return akin.ErrForm, i, ""
		}
		if text[i] == '(' && strings.Count(text[:i], "(")-strings.Count(text[:i], ")") >= 8 {
			return akin.ErrDeep, i, ""
		}
		awaited = rest + awaited[1:]
	}
	if awaited != "" {
		return akin.ErrForm, len(text), ""
	}
	terms, claims := found(text)
	if len(terms) > 7 || len(claims) > 4 {
		return akin.ErrMany, 0, ""
	}
	return akin.OK, 0, strings.Join(terms, " ") + "/" + strings.Join(claims, " ")
}

// found looks at each end of a term or claim for where it began.
func found(text string) (terms, claims []string) {
	for end := range len(text) {
		start := end
		if text[end] == ')' {
			start = opening(text, end) - 1
		}
		switch {
		case start < 0:
		case text[end] == ')' && (text[start] == 'P' || text[start] == 'Q'):
			claims = withNew(claims, text[start:end+1])
		case text[end] == ')' && (text[start] == 'f' || text[start] == 'g'), text[end] >= 'a' && text[end] <= 'e':
			terms = withNew(terms, text[start:end+1])
		}
	}
	return terms, claims
}

// opening tells the place of the bracket that the one at end shuts.
func opening(text string, end int) int {
	at := end
	for strings.Count(text[at:end+1], "(") < strings.Count(text[at:end+1], ")") {
		at--
	}
	return at
}

func withNew(list []string, one string) []string {
	if slices.Contains(list, one) {
		return list
	}
	return append(list, one)
}

func compare(t *testing.T, text string) {
	t.Helper()
	errno, place, want := opinion(text)
	if gotErrno, gotPlace := akin.Check(text); gotErrno != errno || gotPlace != place {
		t.Errorf("P3: Check(%q) = %d, %d, want %d, %d", text, gotErrno, gotPlace, errno, place)
	}
	if got, gotErrno := akin.Parts(text); got != want || gotErrno != errno {
		t.Errorf("P4: Parts(%q) = %q, %d, want %q, %d", text, got, gotErrno, want, errno)
	}
	if errno == akin.OK {
		errno = akin.ErrModel
	} else {
		if got, gotErrno := akin.Count(text); got != 0 || gotErrno != errno {
			t.Errorf("P6: Count(%q) = %d, %d, want 0, %d", text, got, gotErrno, errno)
		}
		if got, model, gotErrno := akin.Decide(text, 2, "x"); got || model != "" || gotErrno != errno {
			t.Errorf("P7: Decide(%q, 2, x) = %v, %q, %d, want %d", text, got, model, gotErrno, errno)
		}
	}
	if got, gotErrno := akin.Holds(text, ""); got || gotErrno != errno {
		t.Errorf("P5: Holds(%q, no text) = %v, %d, want false, %d", text, got, gotErrno, errno)
	}
}

// Every text of few bytes, of the bytes that matter.
func TestAllShortTexts(t *testing.T) {
	const bytes = "afgP!(),=&x"
	texts := []string{""}
	for range 8 {
		var longer []string
		for _, text := range texts {
			compare(t, text)
			// A text that is refused within is refused at the same place
			// whatever follows, which one more byte is enough to see.
			if errno, place, _ := opinion(text); errno == akin.ErrForm && place < len(text)-1 {
				continue
			}
			for i := range len(bytes) {
				longer = append(longer, text+bytes[i:i+1])
			}
		}
		texts = longer
	}
}

// Every change of one byte, for any other, more or less, in long formulas.
func TestAllChangesOfOneByte(t *testing.T) {
	for _, formula := range []string{
		"(f(g(a,b))=b>(P(c)|P(f(a))))",
		"!((P(a)&!Q(f(b)))>(g(a,b)=f(b)-(a=b|b=a)))",
		"(((P(a)&P(b))&(Q(a)&Q(b)))&(P(a)|Q(b)))",
		"((a=b&c=d)&(e=f(a)&f(b)=f(b)))",
		"(((((((f(a)=a&a=b)&a=b)&a=b)&a=b)&a=b)&a=b)&(a=b|f(a)=P))",
		nested(8), nested(9), times(6) + "=a", times(8) + "=a",
		strings.Repeat("!", 97) + "a=b",
		"((P(a)>Q(b))-(" + times(4) + "=b|g(g(a,b),f(a))=g(b,a)))",
	} {
		compare(t, formula)
		for at := range len(formula) + 1 {
			for b := range 256 {
				one := string([]byte{byte(b)})
				compare(t, formula[:at]+one+formula[at:])
				if at < len(formula) {
					compare(t, formula[:at]+one+formula[at+1:])
				}
			}
			if at < len(formula) {
				compare(t, formula[:at]+formula[at+1:])
			}
		}
	}
}
