package akin

import "strings"

// situation is a case of a formula (the language keeps the word for itself):
// which of its terms are equal, by their numbers, and which claims hold.
type situation struct {
	equal classes[int]
	holds []bool
}

// written writes a case.
func (f formula) written(s situation) string {
	var text strings.Builder
	digits := numbering[int]{}
	for t := range f.terms {
		text.WriteByte('0' + byte(digits.number(s.equal.of(t))))
	}
	text.WriteByte('/')
	for _, holds := range s.holds {
		if holds {
			text.WriteByte('1')
		} else {
			text.WriteByte('0')
		}
	}
	return text.String()
}

// situation reads a case. What a text of the right length means is found for
// any bytes; it is a written case if what it means is written so.
func (f formula) situation(text string) (situation, bool) {
	terms, claims := len(f.terms), len(f.claims)
	if len(text) != terms+1+claims {
		return situation{}, false
	}
	s := situation{equal: together([]byte(text[:terms])), holds: make([]bool, claims)}
	for c := range s.holds {
		s.holds[c] = text[terms+1+c] == '1'
	}
	return s, f.written(s) == text
}

// isModel tells whether a case is sound and the formula is true in it. Classes
// cannot but be equal as they should; what they leave open is asked here.
func (f formula) isModel(s situation) bool {
	return f.congruent(s.equal) && f.agreed(s) && f.isTrue(s)
}

// congruent tells whether functions make the same of the same.
func (f formula) congruent(equal classes[int]) bool {
	for a, b := range alike(f.made(equal)) {
		if !equal.same(a, b) {
			return false
		}
	}
	return true
}

// made tells of which classes each term is made. Two names are never made
// alike, so all terms can be asked in one way.
func (f formula) made(equal classes[int]) []term {
	made := make([]term, 0, len(f.terms))
	for _, t := range f.terms {
		made = append(made, term{t.letter, equal.of(t.first), equal.of(t.second)})
	}
	return made
}

// agreed tells whether a property holds of all equal terms or of none.
func (f formula) agreed(s situation) bool {
	said := make([]claim, 0, len(f.claims))
	for _, c := range f.claims {
		said = append(said, claim{c.letter, s.equal.of(c.of)})
	}
	return agree(said, s.holds)
}

// agree tells whether of claims that are the same all hold or none.
func agree(said []claim, holds []bool) bool {
	for a, b := range alike(said) {
		if holds[a] != holds[b] {
			return false
		}
	}
	return true
}

// isTrue tells whether the formula is true in a case.
func (f formula) isTrue(s situation) bool {
	truths := make([]bool, 0, len(f.pieces))
	for _, p := range f.pieces {
		truths = append(truths, p.isTrue(s, truths))
	}
	return truths[len(truths)-1]
}

// isTrue tells whether a piece is true in a case, by the truths of the pieces
// ahead of it.
func (p piece) isTrue(s situation, truths []bool) bool {
	switch p.sign {
	case '=':
		return s.equal.same(p.first, p.second)
	case 'P', 'Q':
		return s.holds[p.first]
	case '!':
		return !truths[p.first]
	case '&':
		return truths[p.first] && truths[p.second]
	case '|':
		return truths[p.first] || truths[p.second]
	case '>':
		return !truths[p.first] || truths[p.second]
	}
	return truths[p.first] == truths[p.second]
}
