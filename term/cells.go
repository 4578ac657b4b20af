package term

import "twin/api"

// Read tells the word that is read of the cells m at the number u (P9).
func Read(m Term, u Term) Term {
	c, a, v, isStore := m.store()
	if isStore && Same(a, u) {
		return v
	}
	if isStore && apart(a, u) {
		return Read(c, u)
	}
	return ofTwo(api.Load, m, u)
}

// Written tells the cells m after v is written at the number u (P9).
func Written(m Term, u Term, v Term) Term {
	there := Read(m, u)
	if Same(there, v) {
		return m
	}
	left := without(m, u)
	return laid(left, u, v)
}

// without takes an earlier store at u out of the cells m, where it can be seen.
func without(m Term, u Term) Term {
	c, a, w, isStore := m.store()
	if isStore && Same(a, u) {
		return c
	}
	if isStore && apart(a, u) {
		d := without(c, u)
		return ofThree(d, a, w)
	}
	return m
}

// laid lays v at u on the cells m, below the stores at greater numbers: so stores at numbers come out in one order,
// whichever was done first.
func laid(m Term, u Term, v Term) Term {
	c, a, w, isStore := m.store()
	if isStore && isGreater(a, u) {
		d := laid(c, u, v)
		return ofThree(d, a, w)
	}
	return ofThree(m, u, v)
}

// isGreater tells whether both are numbers and a is the greater one.
func isGreater(a Term, u Term) bool {
	x, isNumber := a.Number()
	y, both := u.Number()
	return isNumber && both && x > y
}

// store tells the c, a and v of cells `(! c a v)`; false, if the cells are no such term.
func (t Term) store() (Term, Term, Term, bool) {
	if t.kind != api.Store || len(t.parts) != 3 {
		return Term{}, Term{}, Term{}, false
	}
	return t.parts[0], t.parts[1], t.parts[2], true
}
