package akin

import "strings"

// term is what a term is made of: its letter, and the numbers of the terms
// within it. A place that the letter does not use stays 0, so that the same
// terms are the same key.
type term struct {
	letter        byte
	first, second int
}

// claim is a property's letter and the number of the term it is said of.
type claim struct {
	letter byte
	of     int
}

// piece is a formula that stands within the formula, or the whole: its sign,
// and the numbers of what it is put together of. Those are terms for '=', a
// claim for a property's letter, and pieces for any other sign.
type piece struct {
	sign          byte
	first, second int
}

// formula is all that stands in a formula, each once: the terms, in the order
// in which they end, the claims, in the order in which they stand there, and
// the pieces, in the order in which they end. So nothing is made of what comes
// later, and the last piece is the whole formula.
type formula struct {
	terms  []term
	claims []claim
	pieces []piece
}

// partsText writes the terms and the claims as Parts tells them.
func (f formula) partsText() string {
	terms := f.termTexts()
	claims := make([]string, 0, len(f.claims))
	for _, c := range f.claims {
		claims = append(claims, applied(c.letter, terms[c.of]))
	}
	return strings.Join(terms, " ") + "/" + strings.Join(claims, " ")
}

// termTexts writes each term. A term ends after those within it, so their
// texts are there already when its own is put together.
func (f formula) termTexts() []string {
	texts := make([]string, 0, len(f.terms))
	for _, t := range f.terms {
		switch t.letter {
		case 'f':
			texts = append(texts, applied('f', texts[t.first]))
		case 'g':
			texts = append(texts, applied('g', texts[t.first], texts[t.second]))
		default:
			texts = append(texts, string(rune(t.letter)))
		}
	}
	return texts
}

// applied writes a function or a property of what is within its brackets.
func applied(letter byte, within ...string) string {
	return string(rune(letter)) + "(" + strings.Join(within, ",") + ")"
}
