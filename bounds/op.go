package bounds

import (
	"math"
	"math/bits"

	"calliper/api"
	"calliper/word"
)

// Op returns a range of all results that an operator has on a number of a and a number
// of b. It returns false if there are none.
func Op(op string, a, b Range) (Range, bool) {
	if !a.valid() || !b.valid() {
		return Range{}, false
	}
	r, err := results(op, a, b)
	if err != api.OK {
		return Range{}, false
	}
	return r, true
}

// results returns the range of the results of an operator on two valid ranges, or an
// error if there are none.
func results(op string, a, b Range) (Range, api.Errno) {
	// The result for the least two numbers also tells whether there is such an operator.
	n, err := word.Op(op, a.Lo, b.Lo)
	if a.point() && b.point() {
		return Point(n), err
	}
	switch op {
	case "+", "*", "<<":
		// These rise with both numbers: if the least result has no place, none has one.
		return Range{n, highest(op, a, b)}, err
	case "-":
		// A least difference that would be negative is 0, as Sub returns with its error; if
		// the greatest one is negative, all are.
		lo, _ := word.Sub(a.Lo, b.Hi)
		hi, err := word.Sub(a.Hi, b.Lo)
		return Range{lo, hi}, err
	case "/":
		lo, err := word.Div(a.Lo, b.Hi)
		return Range{lo, a.Hi / max(b.Lo, 1)}, err
	case "%":
		_, err := word.Mod(a.Lo, b.Hi)
		return Range{0, min(a.Hi, b.Hi-1)}, err
	case ">>":
		hi, err := word.Shr(a.Hi, b.Lo)
		return Range{a.Lo >> min(b.Hi, 63), hi}, err
	case "&":
		return Range{0, min(a.Hi, b.Hi)}, api.OK
	case "|":
		return Range{max(a.Lo, b.Lo), word.Mask(bits.Len64(max(a.Hi, b.Hi)))}, api.OK
	}
	// All that are left tell a truth, for which there is no error.
	return Range{0, 1}, err
}

// highest returns the result of a rising operator for the greatest two numbers, or the
// maximum if it has no place.
func highest(op string, a, b Range) uint64 {
	n, err := word.Op(op, a.Hi, b.Hi)
	if err != api.OK {
		return math.MaxUint64
	}
	return n
}
