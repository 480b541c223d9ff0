package akin

import "maps"

// belief is what an unknown is taken for: how many others were believed when it
// came to be, and the rule by which it followed from them. What was chosen
// followed by none.
type belief struct {
	is    bool
	since int
	by    rule
}

// search looks for beliefs about all unknowns that keep all rules and to which
// there is no objection: a rule that they break, though it was not known yet.
type search struct {
	unknowns int
	rules    []rule
	object   func(map[int]belief) rule
	tape     string
	beliefs  map[int]belief
}

// finds tells whether there are such beliefs, and leaves them. It goes back and
// begins anew only when it has learned a rule that it did not have: what is
// objected was broken by beliefs that kept all rules, and choices that are
// blamed were left open by all rules. There are only so many rules about so
// many unknowns, so it ends, whatever the tape says.
func (s *search) finds() bool {
	var broken rule
anew:
	s.beliefs = map[int]belief{}
on:
	broken = s.follow()
	if len(broken) > 0 {
		goto back
	}
	if s.choose() {
		goto on
	}
	broken = s.object(s.beliefs)
	if len(broken) == 0 {
		return true
	}
	s.rules = append(s.rules, broken)
	goto anew
back:
	broken = s.blame(broken)
	if len(broken) == 0 {
		return false
	}
	s.rules = append(s.rules, broken)
	if s.digit()%2 == 1 {
		goto anew
	}
	s.forget(broken[0].of)
	goto on
}

// follow believes what the rules leave no choice about, until nothing more
// follows or a rule is broken, which it tells.
func (s *search) follow() rule {
	for before := -1; before < len(s.beliefs); {
		before = len(s.beliefs)
		for _, r := range s.rules {
			switch last, open := s.open(r); open {
			case 0:
				return r
			case 1:
				s.believe(last, r)
			}
		}
	}
	return nil
}

// open tells how many views of a rule may come to be right, and the last of
// them; -1, if one is right already.
func (s *search) open(r rule) (last view, open int) {
	for _, v := range r {
		b, known := s.beliefs[v.of]
		if known && b.is == v.is {
			return v, -1
		}
		if !known {
			last = v
			open++
		}
	}
	return last, open
}

func (s *search) believe(v view, by rule) {
	s.beliefs[v.of] = belief{v.is, len(s.beliefs), by}
}

// choose believes something that is open, as the tape says, if anything is.
func (s *search) choose() bool {
	var open []int
	for of := range s.unknowns {
		if _, known := s.beliefs[of]; !known {
			open = append(open, of)
		}
	}
	if len(open) == 0 {
		return false
	}
	digit := s.digit()
	s.believe(view{open[digit/2%len(open)], digit%2 == 1}, nil)
	return true
}

// digit reads the tape, which goes on with 0 where it has ended.
func (s *search) digit() int {
	if s.tape == "" {
		return 0
	}
	digit := int(s.tape[0] - '0')
	s.tape = s.tape[1:]
	return digit
}

// blame goes back from a broken rule to the choices by which it came to be
// broken, the latest first, and tells the rule that not all of them are right.
func (s *search) blame(broken rule) rule {
	var choices rule
	blamed := numbering[int]{}
	for _, v := range broken {
		blamed.number(v.of)
	}
	for of, b := range inOrder(s.beliefs, latestFirst) {
		if _, ok := blamed[of]; !ok {
			continue
		}
		if b.by == nil {
			choices = append(choices, view{of, !b.is})
		}
		for _, v := range b.by {
			blamed.number(v.of)
		}
	}
	return choices
}

func latestFirst(_ int, b belief) int { return -b.since }

// forget gives up a belief and all that came after it.
func (s *search) forget(of int) {
	since := s.beliefs[of].since
	maps.DeleteFunc(s.beliefs, func(_ int, b belief) bool { return b.since >= since })
}
