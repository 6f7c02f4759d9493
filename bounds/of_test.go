package bounds

import (
	"math"
	"reflect"
	"slices"
	"strings"
	"testing"

	"calliper/api"
	"calliper/parse"
)

func parsed(t *testing.T, s string) *parse.File {
	t.Helper()
	f, at, err := parse.Parse(s)
	if err != api.OK {
		t.Fatalf("Parse(%q): %v, %v", s, at, err)
	}
	return f
}

// checkAt checks the range of an expression of a file.
func checkAt(t *testing.T, f *parse.File, at int, vars []Var, want Range, ok bool) {
	t.Helper()
	if got, gotOK := Of(f, at, vars); got != want || gotOK != ok {
		t.Errorf("Of(.., %d, %.100v) = %v, %t; want %v, %t", at, vars, got, gotOK, want, ok)
	}
}

// checkOf checks the range of an expression by its text.
func checkOf(t *testing.T, s string, vars []Var, want Range, ok bool) {
	t.Helper()
	f := parsed(t, "struct S { a: u8; b: bytes["+s+"]; c: bytes[1]; }")
	if got, gotOK := Of(f, f.Types[1].Expr, vars); got != want || gotOK != ok {
		t.Errorf("%s with %v: %v, %t; want %v, %t", s, vars, got, gotOK, want, ok)
	}
}

func num(n uint64) parse.Expr          { return parse.Expr{Kind: parse.Num, N: n} }
func name(s string) parse.Expr         { return parse.Expr{Kind: parse.Name, Name: s} }
func notOf(kids ...int) parse.Expr     { return parse.Expr{Kind: parse.Not, Kids: kids} }
func plus(kids ...int) parse.Expr      { return bin("+", kids...) }
func file(l ...parse.Expr) *parse.File { return &parse.File{Exprs: l} }

func bin(op string, kids ...int) parse.Expr {
	return parse.Expr{Kind: parse.Bin, Op: op, Kids: kids}
}

// P11.3
func TestNumbers(t *testing.T) {
	for _, n := range edges() {
		checkAt(t, file(num(n)), 0, nil, Point(n), true)
		checkAt(t, file(num(n)), 0, []Var{{"", Range{2, 1}}}, Point(n), true)
	}
	checkOf(t, "7", nil, Point(7), true)
	checkOf(t, "0xffffffffffffffff", nil, Point(most), true)
	checkOf(t, "3 + 4", nil, Point(7), true)
	checkOf(t, "3 - 4", nil, Range{}, false)
}

// P11.3
func TestNames(t *testing.T) {
	vars := []Var{{"n", Range{3, 9}}, {"m", Point(10)}, {"n", Range{4, 5}}, {"o", Range{}}, {"big", All(64)}}
	checkOf(t, "n", vars, Range{4, 5}, true)
	checkOf(t, "m", vars, Point(10), true)
	checkOf(t, "o", vars, Point(0), true)
	checkOf(t, "big", vars, Range{0, most}, true)
	for _, s := range []string{"x", "N", "nn", "bi", "x + 1", "1 + x", "!x", "!!x", "n - x"} {
		checkOf(t, s, vars, Range{}, false)
	}
	checkOf(t, "n", nil, Range{}, false)
	checkOf(t, "n", []Var{}, Range{}, false)
	checkOf(t, "n", vars[:1], Range{3, 9}, true)
	// The consts of a File have no ranges by themselves.
	f := parsed(t, "const K = 5; struct S { a: bytes[K + 1]; }")
	checkAt(t, f, 2, nil, Range{}, false)
	checkAt(t, f, 2, []Var{{"K", Range{6, 7}}}, Range{7, 8}, true)
}

// P11.3: the last var of a name counts, wherever it stands, also if its range is not
// valid.
func TestLastName(t *testing.T) {
	a, b, bad := Range{1, 2}, Range{3, 4}, Range{2, 1}
	checkOf(t, "n", []Var{{"n", a}, {"n", b}}, b, true)
	checkOf(t, "n", []Var{{"n", b}, {"n", a}}, a, true)
	checkOf(t, "n", []Var{{"n", a}, {"n", b}, {"m", a}}, b, true)
	checkOf(t, "n", []Var{{"n", b}, {"m", a}, {"m", bad}}, b, true)
	checkOf(t, "n", []Var{{"n", bad}, {"n", b}}, b, true)
	checkOf(t, "n", []Var{{"n", b}, {"n", bad}}, Range{}, false)
	checkOf(t, "n", []Var{{"n", bad}, {"n", bad}}, Range{}, false)
	many := slices.Repeat([]Var{{"n", a}, {"m", b}}, 1000)
	many[1998].Range, many[1997].Range = Range{7, 8}, Range{9, 9}
	checkOf(t, "n", many, Range{7, 8}, true)
	checkOf(t, "m", many, b, true)
}

// P11.3: no range that is not valid comes from a name.
func TestInvalidNames(t *testing.T) {
	for _, bad := range []Range{{1, 0}, {9, 3}, {most, 0}, {most, most - 1}, {1 << 63, 1<<63 - 1}} {
		vars := []Var{{"n", bad}, {"m", Range{3, 9}}}
		for _, s := range []string{"n", "!n", "!!n", "n + 1", "1 + n", "n && 0", "0 && n", "n & 0", "m * n", "n * n", "1 || !n", "(n == 1) + m"} {
			checkOf(t, s, vars, Range{}, false)
		}
		// Where it is not named it does no harm.
		checkOf(t, "m + 1", vars, Range{4, 10}, true)
	}
}

// P11.3: a name is any string, and what a kind does not need plays no part.
func TestOtherFields(t *testing.T) {
	for _, s := range []string{"", " ", "u8", "\xff", "a b", "1", strings.Repeat("long", 1<<18)} {
		checkAt(t, file(name(s)), 0, []Var{{s, Range{3, 9}}, {s + "x", Range{1, 2}}}, Range{3, 9}, true)
		checkAt(t, file(name(s)), 0, []Var{{s + "x", Range{1, 2}}}, Range{}, false)
	}
	f := file(
		parse.Expr{Kind: parse.Num, N: 7, Name: "x", Op: "?"},
		parse.Expr{Kind: parse.Name, Name: "n", N: 9, Op: "+"},
		parse.Expr{Kind: parse.Not, Kids: []int{0}, N: 9, Name: "x", Op: "-"},
		parse.Expr{Kind: parse.Bin, Kids: []int{0, 1}, N: 9, Name: "x", Op: "-"},
	)
	for at, want := range []Range{Point(7), {3, 5}, Point(0), {2, 4}} {
		checkAt(t, f, at, []Var{{"n", Range{3, 5}}}, want, true)
	}
}

// P11.3
func TestNot(t *testing.T) {
	for _, x := range []struct{ r, want Range }{
		{Point(0), Point(1)}, {Point(1), Point(0)}, {Point(most), Point(0)}, {Range{1, 2}, Point(0)}, {Range{1, most}, Point(0)},
		{Range{0, 1}, Range{0, 1}}, {Range{0, most}, Range{0, 1}}, {Range{1 << 63, most}, Point(0)}, {Range{0, 1 << 63}, Range{0, 1}},
	} {
		vars := []Var{{"n", x.r}}
		checkOf(t, "!n", vars, x.want, true)
		twice := Range{1 - x.want.Hi, 1 - x.want.Lo}
		checkOf(t, "!!n", vars, twice, true)
		checkOf(t, "!!!n", vars, x.want, true)
	}
	for _, s := range []string{"!(1 - 2)", "!(1 / 0)", "!x", "!(n - 9)", "!!(n - 9)"} {
		checkOf(t, s, []Var{{"n", Range{3, 4}}}, Range{}, false)
	}
}

// P11.3
func TestBins(t *testing.T) {
	vars := []Var{{"a", Range{3, 9}}, {"b", Range{5, 6}}, {"z", Point(0)}, {"n", All(8)}}
	for _, x := range []struct {
		s    string
		want Range
	}{
		{"a + b", Range{8, 15}}, {"b - a", Range{0, 3}}, {"a * b", Range{15, 54}}, {"a / b", Range{0, 1}}, {"a % b", Range{0, 5}}, {"b % a", Range{0, 6}},
		{"a << b", Range{96, 576}}, {"n >> b", Range{0, 7}}, {"a & b", Range{0, 6}}, {"a | b", Range{5, 15}}, {"a < b", Range{0, 1}}, {"a && b", Range{0, 1}},
		{"z || z", Point(0)}, {"n * 4 + 1", Range{1, 1021}}, {"!(n + 1)", Point(0)}, {"(a + b) * (n | 256)", Range{2048, 7665}}, {"n - n", Range{0, 255}},
		{"2 * a == 2 * a", Range{0, 1}}, {"!z << 3", Point(8)}, {"z * a", Point(0)}, {"a - b + b", Range{5, 10}}, {"a * (b - 5)", Range{0, 9}},
	} {
		checkOf(t, x.s, vars, x.want, true)
	}
	for _, s := range []string{"a - b - b", "a / z", "a / z == 1 || 1", "n * 0 - a", "a << b * 13", "a >> b * 13", "(n + 1) * 0xffffffffffffffff * a", "n % (a * 0)"} {
		checkOf(t, s, vars, Range{}, false)
	}
}

// P11.3: false if there is no range for one operand, whatever the operator and the other
// operand are.
func TestFalseOperands(t *testing.T) {
	vars := []Var{{"n", Range{3, 4}}, {"bad", Range{1, 0}}}
	for _, op := range operators() {
		for _, s := range []string{"x", "bad", "(1 - 2)", "(n - 5)", "(n / 0)", "(n << 64)", "!x", "(1 + !(n >> 64))"} {
			for _, other := range []string{"0", "1", "n", "(n + 1)", s} {
				checkOf(t, s+" "+op+" "+other, vars, Range{}, false)
				checkOf(t, other+" "+op+" "+s, vars, Range{}, false)
			}
		}
	}
	for _, op := range noOperators() {
		f := file(num(1), name("n"), bin(op, 0, 0), bin(op, 1, 1), notOf(2), plus(0, 3), bin("&&", 3, 0))
		for at := 2; at < 7; at++ {
			checkAt(t, f, at, vars, Range{}, false)
		}
	}
}

// P11.3: left and right are those of the Kids, wherever the operands stand.
func TestSides(t *testing.T) {
	f := file(name("b"), name("a"), bin("-", 1, 0), bin("-", 0, 1), bin("-", 2, 3), bin("-", 1, 1))
	vars := []Var{{"a", Range{8, 9}}, {"b", Range{1, 3}}}
	checkAt(t, f, 2, vars, Range{5, 8}, true)
	checkAt(t, f, 3, vars, Range{}, false)
	checkAt(t, f, 4, vars, Range{}, false)
	checkAt(t, f, 5, vars, Range{0, 1}, true)
	for _, op := range operators() {
		f = file(name("b"), name("a"), bin(op, 1, 0), bin(op, 0, 1))
		for _, a := range pairs([]uint64{0, 3, 63, most}) {
			for _, b := range pairs([]uint64{0, 3, 64, most - 1}) {
				vars = []Var{{"a", a}, {"b", b}}
				want, ok := meant(op, a, b)
				checkAt(t, f, 2, vars, want, ok)
				want, ok = meant(op, b, a)
				checkAt(t, f, 3, vars, want, ok)
			}
		}
	}
}

// P11.3
func TestNoFile(t *testing.T) {
	for _, at := range []int{math.MinInt, -1, 0, 1, math.MaxInt} {
		checkAt(t, nil, at, nil, Range{}, false)
		checkAt(t, nil, at, []Var{{"n", Point(1)}}, Range{}, false)
	}
}

// P11.3: indices of expressions that there are not.
func TestNoExpression(t *testing.T) {
	for _, f := range []*parse.File{file(), file(num(1)), file(num(1), num(2), plus(0, 1)), parsed(t, "struct S { a: bytes[1 + n]; }")} {
		n := len(f.Exprs)
		for _, at := range []int{math.MinInt, math.MinInt + 1, -n - 1, -n, -2, -1, n, n + 1, 1 << 32, math.MaxInt - 1, math.MaxInt} {
			if at < 0 || at >= n {
				checkAt(t, f, at, []Var{{"n", Point(1)}}, Range{}, false)
			}
		}
	}
	// The memory behind a list is none of it.
	f := file(num(1), num(2), num(3))
	f.Exprs = f.Exprs[:2]
	checkAt(t, f, 1, nil, Point(2), true)
	checkAt(t, f, 2, nil, Range{}, false)
}

// misshapen are expressions that are not evaluable as number 2 of a list, the first two
// of which are.
func misshapen() []parse.Expr {
	list := []parse.Expr{
		notOf(), notOf(0, 0), notOf(0, 1, 0), bin("+"), bin("+", 0), bin("+", 0, 1, 0), bin("+", 0, 1, 0, 1), plus(slices.Repeat([]int{0}, 1<<16)...),
	}
	for _, at := range []int{math.MinInt, math.MinInt + 1, -1 << 32, -3, -2, -1, 2, 3, 4, 5, 1 << 32, math.MaxInt - 1, math.MaxInt} {
		list = append(list, notOf(at), plus(0, at), plus(at, 0), plus(at, at), bin("?", 0, at))
	}
	for _, kind := range []parse.ExprKind{math.MinInt, -2, -1, parse.ExprKinds, parse.ExprKinds + 1, 1 << 32, math.MaxInt} {
		list = append(list, parse.Expr{Kind: kind}, parse.Expr{Kind: kind, N: 1, Name: "n", Op: "+"},
			parse.Expr{Kind: kind, Kids: []int{0}}, parse.Expr{Kind: kind, Op: "+", Kids: []int{0, 1}})
	}
	return list
}

// P11.3: what is not evaluable, by itself and as a part of others.
func TestNotEvaluable(t *testing.T) {
	vars := []Var{{"n", Range{3, 9}}}
	for _, x := range misshapen() {
		f := file(num(1), name("n"), x, name("x"), notOf(2), plus(2, 0), plus(0, 2), plus(3, 2), plus(2, 3), notOf(7), bin("?", 0, 2), plus(4, 4), plus(0, 1))
		for _, at := range []int{2, 4, 5, 6, 7, 8, 9, 10, 11} {
			checkAt(t, f, at, vars, Range{}, false)
		}
		// Those that it is no part of have their ranges all the same.
		checkAt(t, f, 0, vars, Point(1), true)
		checkAt(t, f, 1, vars, Range{3, 9}, true)
		checkAt(t, f, 3, vars, Range{}, false)
		checkAt(t, f, 12, vars, Range{4, 10}, true)
	}
}

// P11.3: the Kids of a Num and of a Name are ignored.
func TestIgnoredKids(t *testing.T) {
	for _, kids := range [][]int{nil, {}, {0}, {0, 1}, {-1}, {2}, {math.MinInt, math.MaxInt}, {0, 0, 0}, slices.Repeat([]int{7}, 1<<16)} {
		f := file(parse.Expr{Kind: parse.Num, N: 5, Kids: kids}, parse.Expr{Kind: parse.Name, Name: "n", Kids: kids}, plus(0, 1), notOf(1))
		for at, want := range []Range{Point(5), {0, 3}, {5, 8}, {0, 1}} {
			checkAt(t, f, at, []Var{{"n", Range{0, 3}}}, want, true)
		}
		checkAt(t, f, 1, nil, Range{}, false)
	}
}

// P11.3 and P1: expressions that are operands of many do not multiply the steps.
func TestShared(t *testing.T) {
	vars := []Var{{"n", Range{0, 1}}, {"m", Range{1, 2}}}
	zero, truths, broken, sums := file(num(0)), file(name("n")), file(name("x")), file(name("m"))
	for i := range 200 {
		zero.Exprs = append(zero.Exprs, plus(i, i))
		truths.Exprs = append(truths.Exprs, bin("&&", i, i))
		broken.Exprs = append(broken.Exprs, bin("||", i, i))
		sums.Exprs = append(sums.Exprs, plus(i, i))
	}
	checkAt(t, zero, 200, vars, Point(0), true)
	checkAt(t, truths, 200, vars, Range{0, 1}, true)
	checkAt(t, broken, 200, vars, Range{}, false)
	checkAt(t, sums, 62, vars, Range{1 << 62, 1 << 63}, true)
	checkAt(t, sums, 63, vars, Range{1 << 63, most}, true)
	checkAt(t, sums, 64, vars, Range{}, false)
	// Not evaluable only at the very beginning.
	zero.Exprs[0] = notOf(0)
	checkAt(t, zero, 200, vars, Range{}, false)
}

// P11.3 and P1: as many levels as the document promises for, and many more.
func TestDeep(t *testing.T) {
	vars := []Var{{"n", Range{1, 2}}}
	for _, levels := range []int{1 << 16, 1 << 18} {
		nots, sums := file(num(1), name("n")), file(num(1), name("n"))
		for i := range levels {
			nots.Exprs = append(nots.Exprs, notOf(i+1))
			sums.Exprs = append(sums.Exprs, plus(0, i+1))
		}
		checkAt(t, nots, levels+1, vars, Point(1), true)
		checkAt(t, nots, levels, vars, Point(0), true)
		checkAt(t, sums, levels+1, vars, Range{uint64(levels) + 1, uint64(levels) + 2}, true)
		nots.Exprs[1], sums.Exprs[1] = name("x"), notOf()
		checkAt(t, nots, levels+1, vars, Range{}, false)
		checkAt(t, sums, levels+1, vars, Range{}, false)
	}
}

// P11.3 and P1: the steps are those of the parts, not of the whole list.
func TestSmallPartOfMany(t *testing.T) {
	f := file(num(1), name("n"), plus(0, 1))
	f.Exprs = append(f.Exprs, slices.Repeat([]parse.Expr{notOf(2)}, 1<<20)...)
	for i := range 1 << 16 {
		checkAt(t, f, len(f.Exprs)-1-i, []Var{{"n", Range{0, 3}}}, Point(0), true)
	}
}

// Rules 4 and 7: arguments are left as they are, and no call hangs on another.
func TestArguments(t *testing.T) {
	s := "const K = 5; struct S { a: bytes[n + K * !m]; b: u8 where b - 1 / m; }"
	f := parsed(t, s)
	vars := []Var{{"n", Range{3, 4}}, {"m", Range{0, 2}}, {"K", Point(5)}, {"b", Point(9)}, {"n", Range{2, 1}}}
	for range 3 {
		checkAt(t, f, 5, vars[:4], Range{3, 9}, true)
		checkAt(t, f, 10, vars[:4], Range{8, 9}, true)
		checkAt(t, f, 5, vars, Range{}, false)
		checkAt(t, f, 5, vars[:2], Range{}, false)
	}
	if !reflect.DeepEqual(f, parsed(t, s)) {
		t.Errorf("the file was changed")
	}
	if !slices.Equal(vars, []Var{{"n", Range{3, 4}}, {"m", Range{0, 2}}, {"K", Point(5)}, {"b", Point(9)}, {"n", Range{2, 1}}}) {
		t.Errorf("the vars were changed: %v", vars)
	}
	// The same File and vars with another number in them are worked out anew.
	f.Exprs[0].Name = "b"
	checkAt(t, f, 5, vars[:4], Range{9, 14}, true)
	vars[3].Range.Lo = 1
	checkAt(t, f, 5, vars[:4], Range{1, 14}, true)
}
