// Package word computes with words: whole numbers from -2^63 to 2^63 - 1, as Go's int is.
package word

import "twin/api"

// constBase is what a Const's two bytes are taken down by, so that numbers below 0 can be written too.
const constBase = 32768

// OfConst tells the number that a Const with the fields b and c gives.
func OfConst(b int, c int) int {
	return 256*b + c - constBase
}

// Of tells what an operation of a kind from Add to Div gives of the words x and y; false, if it gives nothing:
// a Div by 0, or another kind. Go's own sums, differences and products are modulo 2^64 already, and its
// division cuts towards 0 and gives -2^63 for -2^63 and -1.
func Of(kind int, x int, y int) (int, bool) {
	switch kind {
	case api.Add:
		return x + y, true
	case api.Sub:
		return x - y, true
	case api.Mul:
		return x * y, true
	case api.And:
		return x & y, true
	case api.Or:
		return x | y, true
	case api.Xor:
		return x ^ y, true
	case api.Less:
		return ofTruth(x < y), true
	case api.Equal:
		return ofTruth(x == y), true
	case api.Div:
		return quotient(x, y)
	}
	return 0, false
}

func quotient(x int, y int) (int, bool) {
	if y == 0 {
		return 0, false
	}
	return x / y, true
}

func ofTruth(yes bool) int {
	if yes {
		return 1
	}
	return 0
}
