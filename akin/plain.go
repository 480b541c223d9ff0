package akin

import "slices"

// view takes an unknown of plain logic, by its number, to be so or not to be.
type view struct {
	of int
	is bool
}

func (v view) not() view { return view{v.of, !v.is} }

// rule lists views, each once, of which at least one is right.
type rule []view

// logic is a formula in plain logic: rules about unknowns. The unknowns are
// pieces; those of one class are one unknown. What an atom is made of is
// nothing to plain logic.
type logic struct {
	unknowns numbering[piece]
	same     classes[piece]
	rules    []rule
}

func newLogic() *logic {
	return &logic{unknowns: numbering[piece]{}, same: classes[piece]{}}
}

// so tells the view that a piece is true.
func (l *logic) so(p piece) view {
	return view{l.unknowns.number(l.same.of(p)), true}
}

// demand adds a rule. Views may be the same where pieces are; if one stood there
// twice, it would not be seen to be the last that is left.
func (l *logic) demand(views ...view) {
	var once rule
	for _, v := range views {
		if !slices.Contains(once, v) {
			once = append(once, v)
		}
	}
	l.rules = append(l.rules, once)
}

// state demands that the formula is true, each piece being what its sign makes
// of the pieces within it.
func (l *logic) state(f formula) {
	views := make([]view, 0, len(f.pieces))
	for _, p := range f.pieces {
		views = append(views, l.define(p, views))
	}
	l.demand(views[len(views)-1])
}

// define tells the view that a piece is true, by the views of the pieces ahead
// of it. A not needs no unknown of its own.
func (l *logic) define(p piece, views []view) view {
	if p.sign == '!' {
		return views[p.first].not()
	}
	whole := l.so(p)
	switch p.sign {
	case '&':
		l.demandBoth(whole, views[p.first], views[p.second])
	case '|':
		l.demandBoth(whole.not(), views[p.first].not(), views[p.second].not())
	case '>':
		l.demandBoth(whole.not(), views[p.first], views[p.second].not())
	case '-':
		l.demandAlike(whole, views[p.first], views[p.second])
	}
	return whole
}

// demandBoth makes the whole right just if both others are.
func (l *logic) demandBoth(whole, first, second view) {
	l.demand(whole.not(), first)
	l.demand(whole.not(), second)
	l.demand(whole, first.not(), second.not())
}

// demandAlike makes the whole right just if both others are, or neither is.
func (l *logic) demandAlike(whole, first, second view) {
	l.demand(whole, first, second)
	l.demand(whole, first.not(), second.not())
	l.demand(whole.not(), first, second.not())
	l.demand(whole.not(), first.not(), second)
}
