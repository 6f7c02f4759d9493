// Package word is layer 1: checked arithmetic on unsigned 64-bit integers.
// Every operation returns its exact result, or 0 and an error.
package word

import (
	"math/bits"

	"calliper/api"
)

// size is the number of bits of a word.
const size = 64

// Add returns a + b, or ErrNum if the sum has no place in 64 bits.
func Add(a, b uint64) (uint64, api.Errno) {
	sum, carry := bits.Add64(a, b, 0)
	if carry != 0 {
		return 0, api.ErrNum
	}
	return sum, api.OK
}

// Sub returns a - b, or ErrNum if the difference is negative.
func Sub(a, b uint64) (uint64, api.Errno) {
	if a < b {
		return 0, api.ErrNum
	}
	return a - b, api.OK
}

// Mul returns a * b, or ErrNum if the product has no place in 64 bits.
func Mul(a, b uint64) (uint64, api.Errno) {
	high, low := bits.Mul64(a, b)
	if high != 0 {
		return 0, api.ErrNum
	}
	return low, api.OK
}

// Div returns the integer quotient a / b, or ErrZero if b is 0.
func Div(a, b uint64) (uint64, api.Errno) {
	if b == 0 {
		return 0, api.ErrZero
	}
	return a / b, api.OK
}

// Mod returns the remainder a % b, or ErrZero if b is 0.
func Mod(a, b uint64) (uint64, api.Errno) {
	if b == 0 {
		return 0, api.ErrZero
	}
	return a % b, api.OK
}

// Shl returns a times 2 to the power of n, or ErrNum if n is greater than 63
// or the result has no place in 64 bits.
func Shl(a, n uint64) (uint64, api.Errno) {
	// A great n is an error even where a is 0 and nothing would be lost.
	if n >= size {
		return 0, api.ErrNum
	}
	moved := a << n
	if moved>>n != a {
		return 0, api.ErrNum
	}
	return moved, api.OK
}

// Shr returns a divided by 2 to the power of n, rounded down, or ErrNum if n
// is greater than 63.
func Shr(a, n uint64) (uint64, api.Errno) {
	if n >= size {
		return 0, api.ErrNum
	}
	return a >> n, api.OK
}

// Mask returns the number whose lowest bits are ones: none of them for a
// negative count, all of them for a count beyond 64.
func Mask(bits int) uint64 {
	if bits < 0 {
		return 0
	}
	// From 64 on the one is shifted out, and 0 - 1 wraps round to all ones.
	return 1<<uint(bits) - 1
}

// Fits reports whether a is at most Mask(bits).
func Fits(a uint64, bits int) bool {
	return a <= Mask(bits)
}

// Truth returns 1 for true and 0 for false.
func Truth(b bool) uint64 {
	if b {
		return 1
	}
	return 0
}

// Op returns the result of the operator op on a and b, or ErrForm if op is no
// operator.
func Op(op string, a, b uint64) (uint64, api.Errno) {
	switch op {
	case "+":
		return Add(a, b)
	case "-":
		return Sub(a, b)
	case "*":
		return Mul(a, b)
	case "/":
		return Div(a, b)
	case "%":
		return Mod(a, b)
	case "<<":
		return Shl(a, b)
	case ">>":
		return Shr(a, b)
	case "&":
		return a & b, api.OK
	case "|":
		return a | b, api.OK
	case "==":
		return Truth(a == b), api.OK
	case "!=":
		return Truth(a != b), api.OK
	case "<":
		return Truth(a < b), api.OK
	case "<=":
		return Truth(a <= b), api.OK
	case ">":
		return Truth(a > b), api.OK
	case ">=":
		return Truth(a >= b), api.OK
	case "&&":
		return Truth(a != 0 && b != 0), api.OK
	case "||":
		return Truth(a != 0 || b != 0), api.OK
	}
	return 0, api.ErrForm
}
