package bounds

import (
	"slices"

	"calliper/api"
	"calliper/expr"
	"calliper/parse"
)

// Var is a name with the range of its number. Of one name the last one counts.
type Var struct {
	Name  string
	Range Range
}

// Of returns a range of all numbers that an expression of a file evaluates to, whatever
// numbers of their ranges the names have. It returns false if there are none.
func Of(f *parse.File, at int, vars []Var) (Range, bool) {
	if f == nil || !evaluable(f, at) {
		return Range{}, false
	}
	// A range that is kept is not worked out again for each expression that it is a part of.
	ranges := map[int]Range{}
	for _, i := range parts(f, at) {
		r, ok := rangeOf(f.Exprs[i], vars, ranges)
		// What has a part that never evaluates to a number never does itself.
		if !ok {
			return Range{}, false
		}
		ranges[i] = r
	}
	return ranges[at], true
}

// evaluable asks layer 10, whose ErrArg means just this: all other errors come from the
// numbers and the names of an evaluable expression.
func evaluable(f *parse.File, at int) bool {
	_, err := expr.Eval(f, at, nil)
	return err != api.ErrArg
}

// parts returns the indices of an evaluable expression and of all that it is made of,
// operands ahead of what they are operands of. It keeps a list, as no depth is too great
// for one.
func parts(f *parse.File, at int) []int {
	list := []int{at}
	listed := map[int]struct{}{}
	for i := 0; i < len(list); i++ {
		for _, kid := range operands(f.Exprs[list[i]]) {
			if _, ok := listed[kid]; !ok {
				listed[kid] = struct{}{}
				list = append(list, kid)
			}
		}
	}
	// Operands have the lesser indices.
	slices.Sort(list)
	return list
}

// operands returns the indices of the operands of an evaluable expression. The Kids of
// other kinds mean nothing.
func operands(x parse.Expr) []int {
	if x.Kind == parse.Not || x.Kind == parse.Bin {
		return x.Kids
	}
	return nil
}

// rangeOf returns the range of an evaluable expression by the ranges of its operands;
// false if it never evaluates to a number.
func rangeOf(x parse.Expr, vars []Var, ranges map[int]Range) (Range, bool) {
	switch x.Kind {
	case parse.Num:
		return Point(x.N), true
	case parse.Name:
		return named(x.Name, vars)
	case parse.Not:
		return not(ranges[x.Kids[0]]), true
	}
	return Op(x.Op, ranges[x.Kids[0]], ranges[x.Kids[1]])
}

// named returns the range of a name; false if it has none, or one without numbers.
func named(name string, vars []Var) (Range, bool) {
	for _, v := range slices.Backward(vars) {
		if v.Name == name {
			return v.Range, v.Range.valid()
		}
	}
	return Range{}, false
}

// not returns the range of the results of a Not on a valid range.
func not(r Range) Range {
	if r.Lo != 0 {
		return Point(0)
	}
	if r.Hi == 0 {
		return Point(1)
	}
	return Range{0, 1}
}
