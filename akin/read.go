package akin

// The limits of a formula.
const (
	maxText   = 100
	maxDepth  = 8
	maxTerms  = 7
	maxClaims = 4
)

// reader reads a formula from the left, one byte ahead: the grammar needs no
// more, so the first byte that is refused is the first that cannot stand there.
type reader struct {
	text  string
	at    int
	depth int
	fault Errno
	parts parts
}

// read takes a formula apart, or tells the error and the place that Check tells.
func read(formula string) (parts, Errno, int) {
	if len(formula) > maxText {
		return parts{}, ErrLong, 0
	}
	r := reader{text: formula, parts: parts{terms: numbering[term]{}, claims: numbering[claim]{}}}
	if !r.formula() || !r.end() {
		return parts{}, r.fault, r.at
	}
	if len(r.parts.terms) > maxTerms || len(r.parts.claims) > maxClaims {
		return parts{}, ErrMany, 0
	}
	return r.parts, OK, 0
}

// peek tells the next byte. The text's end is told as 0, which is refused
// wherever it stands, and so needs no telling apart from a byte 0.
func (r *reader) peek() byte {
	if r.at == len(r.text) {
		return 0
	}
	return r.text[r.at]
}

// refuse keeps the error; the place is where the reader stands.
func (r *reader) refuse(fault Errno) bool {
	r.fault = fault
	return false
}

// take goes past a byte that must stand here.
func (r *reader) take(want byte) bool {
	if r.peek() != want {
		return r.refuse(ErrForm)
	}
	r.at++
	return true
}

// open goes past a bracket. Whether it may stand here is asked ahead of how
// deep it is: only a bracket that fits the grammar can be too deep.
func (r *reader) open() bool {
	if r.peek() == '(' && r.depth == maxDepth {
		return r.refuse(ErrDeep)
	}
	r.depth++
	return r.take('(')
}

// shut goes past the bracket that ends what open began.
func (r *reader) shut() bool {
	r.depth--
	return r.take(')')
}

// end asks that nothing is left.
func (r *reader) end() bool {
	if r.at < len(r.text) {
		return r.refuse(ErrForm)
	}
	return true
}

func (r *reader) formula() bool {
	switch r.peek() {
	case '!':
		r.at++
		return r.formula()
	case '(':
		return r.open() && r.formula() && r.joint() && r.formula() && r.shut()
	case 'P', 'Q':
		return r.claim()
	}
	return r.equality()
}

// joint goes past the sign between two formulas.
func (r *reader) joint() bool {
	switch r.peek() {
	case '&', '|', '>', '-':
		r.at++
		return true
	}
	return r.refuse(ErrForm)
}

func (r *reader) claim() bool {
	letter := r.peek()
	r.at++
	of, ok := r.argument()
	if ok {
		r.parts.claims.number(claim{letter, of})
	}
	return ok
}

func (r *reader) equality() bool {
	if _, ok := r.term(); !ok || !r.take('=') {
		return false
	}
	_, ok := r.term()
	return ok
}

// term tells a term's number. It is numbered when it has been read whole, as
// terms are told in the order in which they end.
func (r *reader) term() (int, bool) {
	t := term{letter: r.peek()}
	ok := true
	switch t.letter {
	case 'a', 'b', 'c', 'd', 'e':
		r.at++
	case 'f':
		r.at++
		t.first, ok = r.argument()
	case 'g':
		r.at++
		t.first, t.second, ok = r.arguments()
	default:
		ok = r.refuse(ErrForm)
	}
	if !ok {
		return 0, false
	}
	return r.parts.terms.number(t), true
}

// argument tells the number of the one term in brackets.
func (r *reader) argument() (int, bool) {
	if !r.open() {
		return 0, false
	}
	of, ok := r.term()
	return of, ok && r.shut()
}

// arguments tells the numbers of the two terms in brackets.
func (r *reader) arguments() (int, int, bool) {
	if !r.open() {
		return 0, 0, false
	}
	first, ok := r.term()
	if !ok || !r.take(',') {
		return 0, 0, false
	}
	second, ok := r.term()
	return first, second, ok && r.shut()
}
