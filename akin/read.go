package akin

// The limits of a formula.
const (
	maxText   = 100
	maxDepth  = 8
	maxTerms  = 7
	maxClaims = 4
)

// reader reads a formula from the left, one byte ahead: the grammar needs no
// more, so the first byte that is refused is the first that cannot stand there.
type reader struct {
	text   string
	at     int
	depth  int
	fault  Errno
	terms  numbering[term]
	claims numbering[claim]
	pieces numbering[piece]
}

// read takes a formula apart, or tells the error and the place that Check tells.
func read(text string) (formula, Errno, int) {
	if len(text) > maxText {
		return formula{}, ErrLong, 0
	}
	r := reader{text: text, terms: numbering[term]{}, claims: numbering[claim]{}, pieces: numbering[piece]{}}
	if _, ok := r.formula(); !ok || !r.end() {
		return formula{}, r.fault, r.at
	}
	if len(r.terms) > maxTerms || len(r.claims) > maxClaims {
		return formula{}, ErrMany, 0
	}
	return formula{r.terms.list(), r.claims.list(), r.pieces.list()}, OK, 0
}

// peek tells the next byte. The text's end is told as 0, which is refused
// wherever it stands, and so needs no telling apart from a byte 0.
func (r *reader) peek() byte {
	if r.at == len(r.text) {
		return 0
	}
	return r.text[r.at]
}

// refuse keeps the error; the place is where the reader stands.
func (r *reader) refuse(fault Errno) bool {
	r.fault = fault
	return false
}

// take goes past a byte that must stand here.
func (r *reader) take(want byte) bool {
	if r.peek() != want {
		return r.refuse(ErrForm)
	}
	r.at++
	return true
}

// open goes past a bracket. Whether it may stand here is asked ahead of how
// deep it is: only a bracket that fits the grammar can be too deep.
func (r *reader) open() bool {
	if r.peek() == '(' && r.depth == maxDepth {
		return r.refuse(ErrDeep)
	}
	r.depth++
	return r.take('(')
}

// shut goes past the bracket that ends what open began.
func (r *reader) shut() bool {
	r.depth--
	return r.take(')')
}

// end asks that nothing is left.
func (r *reader) end() bool {
	if r.at < len(r.text) {
		return r.refuse(ErrForm)
	}
	return true
}

// formula tells a piece's number. Like a term, it is numbered when it has been
// read whole.
func (r *reader) formula() (int, bool) {
	p := piece{sign: r.peek()}
	ok := true
	switch p.sign {
	case '!':
		r.at++
		p.first, ok = r.formula()
	case '(':
		p, ok = r.joined()
	case 'P', 'Q':
		r.at++
		p.first, ok = r.claim(p.sign)
	default:
		p, ok = r.equality()
	}
	if !ok {
		return 0, false
	}
	return r.pieces.number(p), true
}

// joined reads two formulas in brackets and the sign between them.
func (r *reader) joined() (p piece, ok bool) {
	if !r.open() {
		return p, false
	}
	if p.first, ok = r.formula(); !ok {
		return p, false
	}
	p.sign = r.peek()
	if !r.joint() {
		return p, false
	}
	p.second, ok = r.formula()
	return p, ok && r.shut()
}

// joint goes past the sign between two formulas.
func (r *reader) joint() bool {
	switch r.peek() {
	case '&', '|', '>', '-':
		r.at++
		return true
	}
	return r.refuse(ErrForm)
}

// claim tells a claim's number, its letter being read.
func (r *reader) claim(letter byte) (int, bool) {
	of, ok := r.argument()
	if !ok {
		return 0, false
	}
	return r.claims.number(claim{letter, of}), true
}

func (r *reader) equality() (p piece, ok bool) {
	p.sign = '='
	if p.first, ok = r.term(); !ok || !r.take('=') {
		return p, false
	}
	p.second, ok = r.term()
	return p, ok
}

// term tells a term's number. It is numbered when it has been read whole, as
// terms are told in the order in which they end.
func (r *reader) term() (int, bool) {
	t := term{letter: r.peek()}
	ok := true
	switch t.letter {
	case 'a', 'b', 'c', 'd', 'e':
		r.at++
	case 'f':
		r.at++
		t.first, ok = r.argument()
	case 'g':
		r.at++
		t.first, t.second, ok = r.arguments()
	default:
		ok = r.refuse(ErrForm)
	}
	if !ok {
		return 0, false
	}
	return r.terms.number(t), true
}

// argument tells the number of the one term in brackets.
func (r *reader) argument() (int, bool) {
	if !r.open() {
		return 0, false
	}
	of, ok := r.term()
	return of, ok && r.shut()
}

// arguments tells the numbers of the two terms in brackets.
func (r *reader) arguments() (int, int, bool) {
	if !r.open() {
		return 0, 0, false
	}
	first, ok := r.term()
	if !ok || !r.take(',') {
		return 0, 0, false
	}
	second, ok := r.term()
	return first, second, ok && r.shut()
}
