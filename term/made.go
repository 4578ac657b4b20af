package term

import (
	"twin/api"
	"twin/word"
)

// Made tells the term that is made of the sign of a kind from Add to Div and of the words u and v (P9).
func Made(kind int, u Term, v Term) Term {
	x, left := u.Number()
	y, right := v.Number()
	if left && right {
		n, ok := word.Of(kind, x, y)
		if ok {
			return OfNumber(n)
		}
	}
	if changePlaces(kind, u, v) {
		return inOrder(kind, v, u)
	}
	return inOrder(kind, u, v)
}

// changePlaces tells whether u and v, not both numbers, stand in the wrong order for a kind that has one.
func changePlaces(kind int, u Term, v Term) bool {
	switch kind {
	case api.Sub, api.Less, api.Div:
		return false
	}
	_, left := u.Number()
	_, right := v.Number()
	if left || right {
		return left
	}
	return v.text < u.text
}

// inOrder makes a term of words that stand in the right order.
func inOrder(kind int, u Term, v Term) Term {
	n, right := v.Number()
	if right {
		t, fits := withNumber(kind, u, n)
		if fits {
			return t
		}
	}
	if Same(u, v) {
		t, fits := ofSame(kind, u)
		if fits {
			return t
		}
	}
	if kind == api.Equal && apart(u, v) {
		return OfNumber(0)
	}
	return ofTwo(kind, u, v)
}

// withNumber tells what comes of u and a number on its right; false, if no rule for numbers fits. It goes back to
// Made with a Sub that becomes an Add, or with a part of u, and so not for ever.
func withNumber(kind int, u Term, n int) (Term, bool) {
	if kind == api.Sub {
		return Made(api.Add, u, OfNumber(0-n)), true
	}
	if keeps(kind, n) {
		return u, true
	}
	if swallows(kind, n) {
		return OfNumber(n), true
	}
	if kind != api.Add {
		return Term{}, false
	}
	w, k, isSum := u.sum()
	if !isSum {
		return Term{}, false
	}
	return Made(api.Add, w, OfNumber(k+n)), true
}

// keeps tells whether every word comes out as it was, with n on its right.
func keeps(kind int, n int) bool {
	switch kind {
	case api.Add, api.Or, api.Xor:
		return n == 0
	case api.Mul, api.Div:
		return n == 1
	case api.And:
		return n == -1
	}
	return false
}

// swallows tells whether n itself comes out, whatever word stands on its left.
func swallows(kind int, n int) bool {
	switch kind {
	case api.Mul, api.And:
		return n == 0
	case api.Or:
		return n == -1
	}
	return false
}

// ofSame tells what comes of a word and the same word; false, if no rule fits.
func ofSame(kind int, u Term) (Term, bool) {
	switch kind {
	case api.Sub, api.Xor, api.Less:
		return OfNumber(0), true
	case api.And, api.Or:
		return u, true
	case api.Equal:
		return OfNumber(1), true
	}
	return Term{}, false
}

// sum tells the w and the number k of a term `(+ w k)`; false, if the term is none.
func (t Term) sum() (Term, int, bool) {
	if t.kind != api.Add || len(t.parts) != 2 {
		return Term{}, 0, false
	}
	k, right := t.parts[1].Number()
	if !right {
		return Term{}, 0, false
	}
	return t.parts[0], k, true
}

// apart tells whether two words are the same thing plus different numbers.
func apart(u Term, v Term) bool {
	thing, n := thingPlus(u)
	other, k := thingPlus(v)
	return thing == other && n != k
}

// thingPlus tells the text of the thing, and the number, that a word is the sum of. Nothing has the empty text, as
// no term has.
func thingPlus(u Term) (string, int) {
	n, isNumber := u.Number()
	if isNumber {
		return "", n
	}
	w, k, isSum := u.sum()
	if isSum {
		return w.text, k
	}
	return u.text, 0
}
