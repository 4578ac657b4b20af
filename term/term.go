// Package term makes terms: a term says how a word, or all cells together, came about from what there was at a
// block's begin.
package term

import (
	"strconv"

	"twin/api"
)

// atBegin is the kind of what no operation gives: it was there at the block's begin.
const atBegin = 0

// Term is a term. Its kind is that of the operation that gives such terms: Const for a number, Add to Div for a
// sign and two words, Load for what is read, Store for what is written. Nothing in it is changed once it is made.
type Term struct {
	kind  int
	value int    // of a number
	parts []Term // of a Store three, of a number and of what was there at the begin none, else two
	size  int
	text  string
}

// OfNumber tells the term that is a number.
func OfNumber(n int) Term {
	return Term{kind: api.Const, value: n, size: 1, text: strconv.Itoa(n)}
}

// OfRegister tells the term of what stood in a register.
func OfRegister(i int) Term {
	return Term{kind: atBegin, size: 1, text: "r" + strconv.Itoa(i)}
}

// OfPlace tells the term of what stood in a place, of which nothing is known.
func OfPlace(p int) Term {
	return Term{kind: atBegin, size: 1, text: "x" + strconv.Itoa(p)}
}

// OfCells tells the term of the cells as they were.
func OfCells() Term {
	return Term{kind: atBegin, size: 1, text: "m"}
}

// Text tells a term's text.
func (t Term) Text() string { return t.text }

// Size tells a term's size.
func (t Term) Size() int { return t.size }

// Number tells the number that a term is; false, if it is none.
func (t Term) Number() (int, bool) {
	if t.kind != api.Const {
		return 0, false
	}
	return t.value, true
}

// Same tells whether two terms are the same.
func Same(u Term, v Term) bool { return u.text == v.text }

// ofTwo lays two parts together as they are, without a look at the rules by which terms are made.
func ofTwo(kind int, u Term, v Term) Term {
	text := "(" + sign(kind) + " " + u.text + " " + v.text + ")"
	return Term{kind: kind, parts: []Term{u, v}, size: 1 + u.size + v.size, text: text}
}

// ofThree is the cells m, where then v was stored at number u.
func ofThree(m Term, u Term, v Term) Term {
	text := "(" + sign(api.Store) + " " + m.text + " " + u.text + " " + v.text + ")"
	return Term{kind: api.Store, parts: []Term{m, u, v}, size: 1 + m.size + u.size + v.size, text: text}
}

func sign(kind int) string {
	switch kind {
	case api.Add:
		return "+"
	case api.Sub:
		return "-"
	case api.Mul:
		return "*"
	case api.And:
		return "&"
	case api.Or:
		return "|"
	case api.Xor:
		return "^"
	case api.Less:
		return "<"
	case api.Equal:
		return "="
	case api.Div:
		return "/"
	case api.Load:
		return "@"
	case api.Store:
		return "!"
	}
	return ""
}
