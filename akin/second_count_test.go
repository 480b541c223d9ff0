package akin_test

import (
	"strings"
	"testing"

	"akin/akin"
)

// relation says of each two terms, by their places, whether they are equal.
type relation [7][7]bool

// asItShould tells, of the first n, what the document says of equal.
func (r *relation) asItShould(n int) bool {
	for a := range n {
		for b := range n {
			for c := range n {
				if !r[a][a] || r[a][b] != r[b][a] || r[a][b] && r[b][c] && !r[a][c] {
					return false
				}
			}
		}
	}
	return true
}

// relations tells all that are as they should be: of all ways at all to say yes
// or no of each two, not of ways to put things into classes.
func relations(n int) (right []relation) {
	for bits := range 1 << (n * (n - 1) / 2) {
		var r relation
		for b := range n {
			r[b][b] = true
			for a := range b {
				yes := bits>>(b*(b-1)/2+a)&1 == 1
				r[a][b], r[b][a] = yes, yes
			}
		}
		if r.asItShould(n) {
			right = append(right, r)
		}
	}
	return right
}

// within tells the texts of the terms within a term or a claim.
func within(text string) []string {
	if len(text) == 1 {
		return nil
	}
	inner := text[2 : len(text)-1]
	for at := range inner {
		if inner[at] == ',' && strings.Count(inner[:at], "(") == strings.Count(inner[:at], ")") {
			return []string{inner[:at], inner[at+1:]}
		}
	}
	return []string{inner}
}

// sound tells, by the texts, whether a case is.
func sound(terms, claims []string, r *relation, held string) bool {
	place := map[string]int{}
	for at, term := range terms {
		place[term] = at
	}
	alike := func(a, b string) bool {
		as, bs := within(a), within(b)
		yes := a[0] == b[0] && len(as) > 0
		for i := range as {
			yes = yes && r[place[as[i]]][place[bs[i]]]
		}
		return yes
	}
	for i, a := range terms {
		for j, b := range terms {
			if alike(a, b) && !r[i][j] {
				return false
			}
		}
	}
	for i, a := range claims {
		for j, b := range claims {
			if alike(a, b) && held[i] != held[j] {
				return false
			}
		}
	}
	return true
}

// worth tells the formula as 1 or 0: what stands for an atom is put in its
// place, and then what is worth 1 or 0 again and again. No term begins or ends
// with a shorter term, so an atom's text is found only where the atom stands.
func worth(formula string, terms, claims []string, r *relation, held string) string {
	var atoms []string
	for i, a := range terms {
		for j, b := range terms {
			atoms = append(atoms, a+"="+b, map[bool]string{true: "1", false: "0"}[r[i][j]])
		}
	}
	for i, claim := range claims {
		atoms = append(atoms, claim, held[i:i+1])
	}
	formula = strings.NewReplacer(atoms...).Replace(formula)
	for len(formula) > 1 {
		formula = reduce.Replace(formula)
	}
	return formula
}

var reduce = strings.NewReplacer(
	"!0", "1", "!1", "0",
	"(0&0)", "0", "(0&1)", "0", "(1&0)", "0", "(1&1)", "1",
	"(0|0)", "0", "(0|1)", "1", "(1|0)", "1", "(1|1)", "1",
	"(0>0)", "1", "(0>1)", "1", "(1>0)", "0", "(1>1)", "1",
	"(0-0)", "1", "(0-1)", "0", "(1-0)", "0", "(1-1)", "1",
)

// write writes a case: a class begins at a term that is equal to none ahead.
func write(n int, r *relation, held string) string {
	text, classes := "", 0
	for b := range n {
		digit := ""
		for a := range b {
			if r[a][b] {
				digit = text[a : a+1]
			}
		}
		if digit == "" {
			digit = string(rune('0' + classes))
			classes++
		}
		text += digit
	}
	return text + "/" + held
}

// allHeld writes all ways n claims may hold or not.
func allHeld(n int) []string {
	all := []string{""}
	for range n {
		var more []string
		for _, held := range all {
			more = append(more, held+"0", held+"1")
		}
		all = more
	}
	return all
}

// judge holds Count, Holds and Decide against all cases.
func judge(t *testing.T, known map[int][]relation, formula string) {
	t.Helper()
	terms, claims := found(formula)
	if known[len(terms)] == nil {
		known[len(terms)] = relations(len(terms))
	}
	count := 0
	for _, r := range known[len(terms)] {
		for _, held := range allHeld(len(claims)) {
			want := sound(terms, claims, &r, held) && worth(formula, terms, claims, &r, held) == "1"
			if want {
				count++
			}
			model := write(len(terms), &r, held)
			if got, errno := akin.Holds(formula, model); got != want || errno != akin.OK {
				t.Errorf("P5: Holds(%q, %q) = %v, %d, want %v", formula, model, got, errno, want)
			}
		}
	}
	if got, errno := akin.Count(formula); got != count || errno != akin.OK {
		t.Errorf("P6: Count(%q) = %d, %d, want %d", formula, got, errno, count)
	}
	decideAlike(t, formula, count > 0)
}

// All formulas of two atoms of a list, each with and without a not, and those
// of three that are met on a walk with a fixed stride.
func TestAllCasesOfManyFormulas(t *testing.T) {
	atoms := []string{"a=b", "c=b", "f(a)=b", "f(a)=f(b)", "f(f(a))=a", "g(a,b)=g(b,a)", "g(f(a),b)=b", "P(a)", "P(b)", "P(f(b))", "Q(a)", "Q(c)"}
	signs := []string{"&", "|", ">", "-"}
	nots := []string{"", "!"}
	known := map[int][]relation{}
	asked, at := 0, 0
	for i, a := range atoms {
		for j, b := range atoms {
			sign := signs[(i+j)%4]
			for k := range 4 {
				at = (at + 29) % (len(atoms) * 8)
				two := "(" + nots[k%2] + a + sign + nots[k/2] + b + ")"
				three := nots[k/2] + "(" + two + signs[at%4] + nots[at/4%2] + atoms[at/8] + ")"
				for _, formula := range []string{two, three} {
					if errno, _ := akin.Check(formula); errno == akin.OK {
						judge(t, known, formula)
						asked++
					}
				}
			}
		}
	}
	if asked < 1000 {
		t.Errorf("only %d formulas were asked", asked)
	}
}

func TestAllCasesOfFullFormulas(t *testing.T) {
	known := map[int][]relation{}
	for _, formula := range []string{
		fullNames, fullTower, "(" + times(6) + "=a>" + times(4) + "=f(a))",
		"((P(a)-Q(b))|((g(a,b)=g(b,a)&P(f(a)))>(Q(g(a,b))-f(a)=f(b))))",
		"!((g(g(a,b),c)=g(a,g(b,c))-P(g(a,b)))>!(Q(c)|P(a)))",
	} {
		judge(t, known, formula)
	}
}

// meant tells, by the document's words, whether a text is a written case of n
// terms and m claims.
func meant(text string, n, m int) bool {
	if len(text) != n+1+m || text[n] != '/' || strings.Trim(text[n+1:], "01") != "" {
		return false
	}
	classes := byte(0)
	for _, digit := range []byte(text[:n]) {
		if digit < '0' || digit > '0'+classes {
			return false
		}
		if digit == '0'+classes {
			classes++
		}
	}
	return true
}

// Every text of few bytes, of the bytes that matter, is a case or refused.
func TestHoldsOfAllShortTexts(t *testing.T) {
	for formula, parts := range map[string][2]int{"a=a": {1, 0}, "P(a)": {1, 1}, "a=b": {2, 0}, "(P(a)-P(b))": {2, 2}, "(a=b|b=c)": {3, 0}, "Q(f(a))": {2, 1}} {
		texts := []string{""}
		for range parts[0] + parts[1] + 3 {
			var longer []string
			for _, text := range texts {
				want := akin.ErrModel
				if meant(text, parts[0], parts[1]) {
					want = akin.OK
				}
				if got, errno := akin.Holds(formula, text); errno != want || errno != akin.OK && got {
					t.Errorf("P5: Holds(%q, %q) = %v, %d, want %d", formula, text, got, errno, want)
				}
				for _, b := range []string{"0", "1", "2", "/", "x"} {
					longer = append(longer, text+b)
				}
			}
			texts = longer
		}
	}
}

// Every change of one byte, for any other, more or less, in written cases.
func TestHoldsOfAllChangesOfOneByte(t *testing.T) {
	for _, c := range []struct {
		formula, model string
		terms, claims  int
	}{
		{"a=b", "01/", 2, 0}, {"P(a)", "0/1", 1, 1}, {fullNames, "0123456/1111", 7, 4},
		{fullNames, "0010223/0101", 7, 4}, {fullTower, "0101010/1000", 7, 4}, {fullTower, "0000000/0000", 7, 4},
	} {
		for at := range len(c.model) + 1 {
			for b := range 256 {
				one := string([]byte{byte(b)})
				texts := []string{c.model[:at] + one + c.model[at:]}
				if at < len(c.model) {
					texts = append(texts, c.model[:at]+one+c.model[at+1:], c.model[:at]+c.model[at+1:])
				}
				for _, text := range texts {
					_, errno := akin.Holds(c.formula, text)
					if right := meant(text, c.terms, c.claims); right != (errno == akin.OK) || !right && errno != akin.ErrModel {
						t.Errorf("P5: Holds(%q, %q) tells %d; a written case: %v", c.formula, text, errno, right)
					}
				}
			}
		}
	}
}
