package akin

// decideAhead is way 0: what follows from equality is plain logic from the
// beginning, so that nothing is left to object to what is believed.
func (f formula) decideAhead(tape string) (bool, string) {
	l := f.logicAhead()
	s := l.search(tape, func(map[int]belief) rule { return nil })
	if !s.finds() {
		return false, ""
	}
	return true, f.written(f.situationOf(l.sayings(s.beliefs)))
}

// logicAhead makes plain logic of the formula, and of what follows from equality
// for all its terms and claims.
func (f formula) logicAhead() *logic {
	l := newLogic()
	l.joinEqualities(len(f.terms))
	l.state(f)
	l.demandEquality(len(f.terms))
	l.demandFunctions(f.terms)
	l.demandProperties(f.claims)
	return l
}

func equality(a, b int) piece { return piece{'=', a, b} }

// joinEqualities makes one unknown of an equality read from either side, and
// one of all equalities of a term with itself.
func (l *logic) joinEqualities(terms int) {
	for a := range terms {
		l.same.join(equality(0, 0), equality(a, a))
		for b := range a {
			l.same.join(equality(b, a), equality(a, b))
		}
	}
}

// demandEquality asks what equal must be and is not by its unknowns alone.
func (l *logic) demandEquality(terms int) {
	l.demand(l.so(equality(0, 0)))
	for a := range terms {
		for b := range terms {
			for c := range a {
				l.demand(l.so(equality(a, b)).not(), l.so(equality(b, c)).not(), l.so(equality(a, c)))
			}
		}
	}
}

// demandFunctions asks that functions make the same of the same. The second
// place, which f does not use, is the same in all its terms.
func (l *logic) demandFunctions(terms []term) {
	for a, x := range terms {
		for b, y := range terms[:a] {
			if x.letter == y.letter {
				l.demand(l.so(equality(x.first, y.first)).not(), l.so(equality(x.second, y.second)).not(), l.so(equality(a, b)))
			}
		}
	}
}

// demandProperties asks that a property holds of both of two equal terms or of
// none.
func (l *logic) demandProperties(claims []claim) {
	for a, x := range claims {
		for b, y := range claims[:a] {
			if x.letter == y.letter {
				differ, first, second := l.so(equality(x.of, y.of)).not(), l.so(piece{x.letter, a, 0}), l.so(piece{y.letter, b, 0})
				l.demand(differ, first, second.not())
				l.demand(differ, first.not(), second)
			}
		}
	}
}
