package akin

import "strings"

// term is what a term is made of: its letter, and the numbers of the terms
// within it. A place that the letter does not use stays 0, so that the same
// terms are the same key.
type term struct {
	letter        byte
	first, second int
}

// claim is a property's letter and the number of the term it is said of.
type claim struct {
	letter byte
	of     int
}

// parts are a formula's terms, numbered in the order in which they end, and
// its claims, numbered in the order in which they stand there.
type parts struct {
	terms  numbering[term]
	claims numbering[claim]
}

// text writes the terms and the claims as Parts tells them.
func (p parts) text() string {
	terms := p.termTexts()
	claims := make([]string, 0, len(p.claims))
	for c := range p.claims.inOrder() {
		claims = append(claims, applied(c.letter, terms[c.of]))
	}
	return strings.Join(terms, " ") + "/" + strings.Join(claims, " ")
}

// termTexts writes each term. A term ends after those within it, so their
// texts are there already when its own is put together.
func (p parts) termTexts() []string {
	texts := make([]string, 0, len(p.terms))
	for t := range p.terms.inOrder() {
		switch t.letter {
		case 'f':
			texts = append(texts, applied('f', texts[t.first]))
		case 'g':
			texts = append(texts, applied('g', texts[t.first], texts[t.second]))
		default:
			texts = append(texts, string(rune(t.letter)))
		}
	}
	return texts
}

// applied writes a function or a property of what is within its brackets.
func applied(letter byte, within ...string) string {
	return string(rune(letter)) + "(" + strings.Join(within, ",") + ")"
}
