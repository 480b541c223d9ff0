package akin

import "slices"

// decideAfter is way 1: plain logic knows nothing of equality, and what is then
// believed is asked whether it can be so.
func (f formula) decideAfter(tape string) (bool, string) {
	l := newLogic()
	l.state(f)
	s := l.search(tape, func(beliefs map[int]belief) rule { return f.objection(l.sayings(beliefs)) })
	if !s.finds() {
		return false, ""
	}
	believed := f.situationOf(l.sayings(s.beliefs))
	f.close(believed.equal)
	return true, f.written(believed)
}

// objection tells the rule that not all of what is said is right, if it cannot
// be so: of no more of it than is needed, so that the rule rules out much.
func (f formula) objection(said []saying) rule {
	if f.canBe(said) {
		return nil
	}
	for at := len(said) - 1; at >= 0; at-- {
		fewer := slices.Concat(said[:at], said[at+1:])
		if !f.canBe(fewer) {
			said = fewer
		}
	}
	var objection rule
	for _, one := range said {
		objection = append(objection, one.not())
	}
	return objection
}

// canBe tells whether there is a sound case in which all that is said is so. If
// there is any, it is so where no terms are equal but those that must be.
func (f formula) canBe(said []saying) bool {
	equal := joined(said)
	f.close(equal)
	var claims []claim
	var holds []bool
	for _, one := range said {
		a := one.atom
		if a.sign != '=' {
			claims = append(claims, claim{a.sign, equal.of(f.claims[a.first].of)})
			holds = append(holds, one.is)
		} else if !one.is && equal.same(a.first, a.second) {
			return false
		}
	}
	return agree(claims, holds)
}

// close joins what functions make of the same.
func (f formula) close(equal classes[int]) {
	for !f.congruent(equal) {
		for a, b := range alike(f.made(equal)) {
			equal.join(a, b)
		}
	}
}
