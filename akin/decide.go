package akin

const maxTape = 60

// isTape tells whether a text is a tape.
func isTape(text string) bool {
	if len(text) > maxTape {
		return false
	}
	for _, b := range []byte(text) {
		if b < '0' || b > '9' {
			return false
		}
	}
	return true
}

// decide tells whether there is a model, and one.
func (f formula) decide(way int, tape string) (bool, string) {
	if way == 0 {
		return f.decideAhead(tape)
	}
	return f.decideAfter(tape)
}

// search begins a search that keeps the rules.
func (l *logic) search(tape string, object func(map[int]belief) rule) *search {
	return &search{unknowns: len(l.unknowns), rules: l.rules, object: object, tape: tape}
}

// saying is a view of an atom, with the atom itself.
type saying struct {
	view
	atom piece
}

// sayings tells what is believed of atoms, in the order of their numbers.
func (l *logic) sayings(beliefs map[int]belief) []saying {
	var said []saying
	pieces := l.unknowns.list()
	for of, b := range inOrder(beliefs, func(of int, _ belief) int { return of }) {
		switch pieces[of].sign {
		case '=', 'P', 'Q':
			said = append(said, saying{view{of, b.is}, pieces[of]})
		}
	}
	return said
}

// joined joins the terms that are said to be equal.
func joined(said []saying) classes[int] {
	equal := classes[int]{}
	for _, one := range said {
		if one.is && one.atom.sign == '=' {
			equal.join(one.atom.first, one.atom.second)
		}
	}
	return equal
}

// situationOf tells the case in which no terms are equal but those that are
// said to be, and no claims hold but those.
func (f formula) situationOf(said []saying) situation {
	s := situation{joined(said), make([]bool, len(f.claims))}
	for _, one := range said {
		if one.atom.sign != '=' {
			s.holds[one.atom.first] = one.is
		}
	}
	return s
}
