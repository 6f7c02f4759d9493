package expr

import (
	"math"
	"reflect"
	"slices"
	"testing"

	"calliper/api"
	"calliper/parse"
	"calliper/word"
)

const most = math.MaxUint64

func parsed(t *testing.T, s string) *parse.File {
	t.Helper()
	f, at, err := parse.Parse(s)
	if err != api.OK {
		t.Fatalf("Parse(%q): %v, %v", s, at, err)
	}
	return f
}

func checkEval(t *testing.T, f *parse.File, at int, e Env, n uint64, err api.Errno) {
	t.Helper()
	if got, gotErr := Eval(f, at, e); got != n || gotErr != err {
		t.Errorf("Eval(.., %d, ..) = %d, %v; want %d, %v", at, got, gotErr, n, err)
	}
}

// checkText checks the value of an expression by its text.
func checkText(t *testing.T, s string, e Env, n uint64, err api.Errno) {
	t.Helper()
	f := parsed(t, "struct S { a: u8; b: bytes["+s+"]; c: bytes[1]; }")
	if got, gotErr := Eval(f, f.Types[1].Expr, e); got != n || gotErr != err {
		t.Errorf("%s with %v = %d, %v; want %d, %v", s, e, got, gotErr, n, err)
	}
}

func num(n uint64) parse.Expr     { return parse.Expr{Kind: parse.Num, N: n} }
func name(s string) parse.Expr    { return parse.Expr{Kind: parse.Name, Name: s} }
func not(kids ...int) parse.Expr  { return parse.Expr{Kind: parse.Not, Kids: kids} }
func plus(kids ...int) parse.Expr { return bin("+", kids...) }

func bin(op string, kids ...int) parse.Expr {
	return parse.Expr{Kind: parse.Bin, Op: op, Kids: kids}
}

func file(list ...parse.Expr) *parse.File { return &parse.File{Exprs: list} }

// The chapter's example.
func TestExample(t *testing.T) {
	checkText(t, "n * (n - 1)", Env{{"n", 3}}, 6, api.OK)
	checkText(t, "n * (n - 1)", Env{{"n", 0}}, 0, api.ErrNum)
}

// P10.2
func TestNumbersAndNames(t *testing.T) {
	e := Env{{"n", 3}, {"m", 10}, {"n", 4}, {"o", 0}, {"big", most}}
	checkText(t, "0", e, 0, api.OK)
	checkText(t, "7", e, 7, api.OK)
	checkText(t, "0xffffffffffffffff", nil, most, api.OK)
	checkText(t, "n", e, 4, api.OK)
	checkText(t, "m", e, 10, api.OK)
	checkText(t, "o", e, 0, api.OK)
	checkText(t, "big", e, most, api.OK)
	checkText(t, "x", e, 0, api.ErrNone)
	checkText(t, "N", e, 0, api.ErrNone)
	checkText(t, "n", nil, 0, api.ErrNone)
	checkText(t, "n", Env{}, 0, api.ErrNone)
	// The consts of a File are no part of an environment by themselves.
	f := parsed(t, "const K = 5; struct S { a: bytes[K + 1]; }")
	checkEval(t, f, 2, nil, 0, api.ErrNone)
	checkEval(t, f, 2, Consts(f), 6, api.OK)
	checkEval(t, f, 2, Consts(f).With("K", 7), 8, api.OK)
}

// P10.2: what a kind does not need plays no part.
func TestOtherFields(t *testing.T) {
	f := file(
		parse.Expr{Kind: parse.Num, N: 7, Name: "x", Op: "?"},
		parse.Expr{Kind: parse.Name, Name: "n", N: 9, Op: "+"},
		parse.Expr{Kind: parse.Not, Kids: []int{0}, N: 9, Name: "x", Op: "-"},
		parse.Expr{Kind: parse.Bin, Kids: []int{0, 1}, N: 9, Name: "x", Op: "-"},
	)
	for at, n := range []uint64{7, 3, 0, 4} {
		checkEval(t, f, at, Env{{"n", 3}}, n, api.OK)
	}
	// A name is any string, in any file.
	for _, s := range []string{"", " ", "u8", "\xff", "a b"} {
		checkEval(t, file(name(s)), 0, Env{{s, 5}}, 5, api.OK)
		checkEval(t, file(name(s)), 0, Env{{s + "x", 5}}, 0, api.ErrNone)
	}
}

// P10.2
func TestNot(t *testing.T) {
	for _, n := range []uint64{0, 1, 2, 1 << 32, 1 << 63, most} {
		want := uint64(0)
		if n == 0 {
			want = 1
		}
		checkText(t, "!n", Env{{"n", n}}, want, api.OK)
		checkText(t, "!!n", Env{{"n", n}}, 1-want, api.OK)
		checkText(t, "!!!n", Env{{"n", n}}, want, api.OK)
	}
	checkText(t, "!x", nil, 0, api.ErrNone)
	checkText(t, "!!x", nil, 0, api.ErrNone)
	checkText(t, "!(1 - 2)", nil, 0, api.ErrNum)
	checkText(t, "!(1 / 0)", nil, 0, api.ErrZero)
}

// operators are those of layer 7.
func operators() []string {
	return []string{"||", "&&", "==", "!=", "<", "<=", ">", ">=", "|", "&", "<<", ">>", "+", "-", "*", "/", "%"}
}

// P10.2: all operators, at the edges of all of them.
func TestOperators(t *testing.T) {
	edges := []uint64{0, 1, 2, 3, 63, 64, 65, 255, 1 << 31, 1<<32 - 1, 1 << 32, 1<<63 - 1, 1 << 63, most - 1, most}
	for _, op := range operators() {
		f := parsed(t, "struct S { a: bytes[a "+op+" b]; }")
		for _, a := range edges {
			for _, b := range edges {
				n, err := word.Op(op, a, b)
				checkEval(t, f, 2, Env{{"a", a}, {"b", b}}, n, err)
				checkEval(t, file(num(b), num(a), bin(op, 1, 0)), 2, nil, n, err)
			}
		}
	}
}

// P10.2: fixed results, so that not all hangs on layer 1.
func TestResults(t *testing.T) {
	e := Env{{"a", 10}, {"b", 4}, {"big", most}}
	for _, x := range []struct {
		s   string
		n   uint64
		err api.Errno
	}{
		{"a + b", 14, api.OK}, {"a - b", 6, api.OK}, {"b - a", 0, api.ErrNum}, {"a * b", 40, api.OK}, {"a / b", 2, api.OK}, {"b / a", 0, api.OK},
		{"a % b", 2, api.OK}, {"b % a", 4, api.OK}, {"a << b", 160, api.OK}, {"b << a", 4096, api.OK}, {"a >> b", 0, api.OK}, {"a >> 1", 5, api.OK},
		{"a & b", 0, api.OK}, {"a | b", 14, api.OK}, {"a == b", 0, api.OK}, {"a != b", 1, api.OK}, {"a < b", 0, api.OK}, {"b < a", 1, api.OK},
		{"a <= b", 0, api.OK}, {"a > b", 1, api.OK}, {"a >= b", 1, api.OK}, {"b >= a", 0, api.OK}, {"a && b", 1, api.OK}, {"0 || b", 1, api.OK},
		{"big + 1", 0, api.ErrNum}, {"big * 2", 0, api.ErrNum}, {"a / 0", 0, api.ErrZero}, {"a % 0", 0, api.ErrZero}, {"big << 1", 0, api.ErrNum}, {"0 << 64", 0, api.ErrNum},
		{"a >> 64", 0, api.ErrNum}, {"a - b - 1", 5, api.OK}, {"a - (b - 1)", 7, api.OK}, {"1 + 2 * 3 << 1 | 1", 15, api.OK}, {"a == 10 == 1", 1, api.OK},
		{"big - big + 1", 1, api.OK}, {"(a - b) * (a + b) / (a % b)", 42, api.OK}, {"!(a < b) && b", 1, api.OK}, {"a - a && 1 || !b", 0, api.OK},
	} {
		checkText(t, x.s, e, x.n, x.err)
	}
}

// P10.2: neither && nor || leaves out its right operand.
func TestBothOperands(t *testing.T) {
	for _, op := range []string{"&&", "||"} {
		for _, left := range []string{"0", "1"} {
			checkText(t, left+" "+op+" x", nil, 0, api.ErrNone)
			checkText(t, left+" "+op+" 1 / 0", nil, 0, api.ErrZero)
			checkText(t, left+" "+op+" (0 - 1)", nil, 0, api.ErrNum)
			checkText(t, "x "+op+" "+left, nil, 0, api.ErrNone)
		}
	}
}

// P10.2: the first error, from left to right and from the operands outward.
func TestFirstError(t *testing.T) {
	faults := []struct {
		s   string
		err api.Errno
	}{{"x", api.ErrNone}, {"(0 - 1)", api.ErrNum}, {"(1 / 0)", api.ErrZero}, {"!x", api.ErrNone}, {"(1 + !(2 % 0))", api.ErrZero}, {"(1 << 64)", api.ErrNum}}
	for _, op := range operators() {
		for _, a := range faults {
			checkText(t, a.s+" "+op+" 0", nil, 0, a.err)
			checkText(t, "0 "+op+" "+a.s, nil, 0, a.err)
			for _, b := range faults {
				checkText(t, a.s+" "+op+" "+b.s, nil, 0, a.err)
				checkText(t, "!("+a.s+" "+op+" "+b.s+")", nil, 0, a.err)
				checkText(t, "(1 + ("+a.s+")) "+op+" "+b.s, nil, 0, a.err)
				checkText(t, "("+a.s+") "+op+" (1 - (1 + "+b.s+"))", nil, 0, a.err)
			}
		}
	}
	// Left is the first one of the Kids, wherever the operands stand.
	f := file(name("x"), num(0), num(1), bin("/", 2, 1), plus(3, 0), plus(0, 3))
	checkEval(t, f, 4, nil, 0, api.ErrZero)
	checkEval(t, f, 5, nil, 0, api.ErrNone)
}

// P10.2: an operator that there is not is the error of layer 1, after those of both
// operands.
func TestUnknownOperator(t *testing.T) {
	for _, op := range []string{"", "?", "!", "=", "^", "and", "+ ", "++", "&&&", "\x00", ".."} {
		f := file(num(1), name("x"), bin(op, 0, 0), bin(op, 0, 1), bin(op, 1, 0), bin("/", 2, 1), bin("/", 1, 2), not(2))
		for at, err := range []api.Errno{2: api.ErrForm, 3: api.ErrNone, 4: api.ErrNone, 5: api.ErrForm, 6: api.ErrNone, 7: api.ErrForm} {
			if at >= 2 {
				checkEval(t, f, at, nil, 0, err)
			}
		}
	}
}

// P10.2
func TestNoFile(t *testing.T) {
	for _, at := range []int{math.MinInt, -1, 0, 1, math.MaxInt} {
		checkEval(t, nil, at, nil, 0, api.ErrNil)
		checkEval(t, nil, at, Env{{"n", 1}}, 0, api.ErrNil)
	}
}

// P10.2: indices of expressions that there are not.
func TestNoExpression(t *testing.T) {
	for _, f := range []*parse.File{file(), file(num(1)), file(num(1), num(2), plus(0, 1)), parsed(t, "struct S { a: bytes[1 + n]; }")} {
		n := len(f.Exprs)
		for _, at := range []int{math.MinInt, math.MinInt + 1, -n - 1, -n, -2, -1, n, n + 1, 1 << 32, math.MaxInt - 1, math.MaxInt} {
			if at < 0 || at >= n {
				checkEval(t, f, at, Env{{"n", 1}}, 0, api.ErrArg)
			}
		}
	}
	// The memory behind a list is none of it.
	f := file(num(1), num(2), num(3))
	f.Exprs = f.Exprs[:2]
	checkEval(t, f, 1, nil, 2, api.OK)
	checkEval(t, f, 2, nil, 0, api.ErrArg)
}

// misshapen are expressions that are not evaluable as number 2 of a list, the first two
// of which are.
func misshapen() []parse.Expr {
	list := []parse.Expr{
		not(), not(0, 0), not(0, 1, 0), bin("+"), bin("+", 0), bin("+", 0, 1, 0), bin("+", 0, 1, 0, 1), plus(slices.Repeat([]int{0}, 1<<16)...),
	}
	for _, at := range []int{math.MinInt, math.MinInt + 1, -1 << 32, -3, -2, -1, 2, 3, 4, 5, 1 << 32, math.MaxInt - 1, math.MaxInt} {
		list = append(list, not(at), plus(0, at), plus(at, 0), plus(at, at), bin("?", 0, at))
	}
	for _, kind := range []parse.ExprKind{math.MinInt, -2, -1, parse.ExprKinds, parse.ExprKinds + 1, 1 << 32, math.MaxInt} {
		list = append(list, parse.Expr{Kind: kind}, parse.Expr{Kind: kind, N: 1, Name: "n", Op: "+"},
			parse.Expr{Kind: kind, Kids: []int{0}}, parse.Expr{Kind: kind, Op: "+", Kids: []int{0, 1}})
	}
	return list
}

// P10.2: what is not evaluable, by itself and as a part of others. It is so ahead of all
// errors of evaluation.
func TestNotEvaluable(t *testing.T) {
	e := Env{{"n", 3}}
	for _, x := range misshapen() {
		f := file(num(1), name("n"), x, name("x"), not(2), plus(2, 0), plus(0, 2), plus(3, 2), plus(2, 3), not(7), bin("?", 0, 2), plus(4, 4), plus(0, 1))
		for _, at := range []int{2, 4, 5, 6, 7, 8, 9, 10, 11} {
			if got, err := Eval(f, at, e); got != 0 || err != api.ErrArg {
				t.Errorf("%.80v: Eval(.., %d, ..) = %d, %v", x.Kids, at, got, err)
			}
		}
		// Those that it is no part of are evaluated all the same.
		checkEval(t, f, 0, e, 1, api.OK)
		checkEval(t, f, 1, e, 3, api.OK)
		checkEval(t, f, 3, e, 0, api.ErrNone)
		checkEval(t, f, 12, e, 4, api.OK)
	}
}

// P10.2: operands stand ahead of what they are operands of, not only in the list.
func TestOperandsAhead(t *testing.T) {
	f := file(not(1), num(1), not(1), plus(2, 3), plus(2, 4), num(2), plus(5, 7), plus(5, 1), not(0))
	for at, err := range []api.Errno{api.ErrArg, api.OK, api.OK, api.ErrArg, api.ErrArg, api.OK, api.ErrArg, api.OK, api.ErrArg} {
		if _, got := Eval(f, at, nil); got != err {
			t.Errorf("Eval(.., %d, ..): %v; want %v", at, got, err)
		}
	}
}

// P10.2: the Kids of a Num and of a Name are ignored.
func TestIgnoredKids(t *testing.T) {
	for _, kids := range [][]int{nil, {}, {0}, {0, 1}, {-1}, {2}, {math.MinInt, math.MaxInt}, {0, 0, 0}, slices.Repeat([]int{7}, 1<<16)} {
		f := file(parse.Expr{Kind: parse.Num, N: 5, Kids: kids}, parse.Expr{Kind: parse.Name, Name: "n", Kids: kids}, plus(0, 1), not(1))
		for at, n := range []uint64{5, 3, 8, 0} {
			checkEval(t, f, at, Env{{"n", 3}}, n, api.OK)
		}
		checkEval(t, f, 1, nil, 0, api.ErrNone)
	}
}

// P10.2 and P1: expressions that are operands of many do not multiply the steps.
func TestShared(t *testing.T) {
	zero, ones, broken := file(num(0)), file(num(1)), file(name("x"))
	for i := range 200 {
		zero.Exprs = append(zero.Exprs, plus(i, i))
		ones.Exprs = append(ones.Exprs, bin("&&", i, i))
		broken.Exprs = append(broken.Exprs, bin("||", i, i))
	}
	checkEval(t, zero, 200, nil, 0, api.OK)
	checkEval(t, ones, 200, nil, 1, api.OK)
	checkEval(t, broken, 200, nil, 0, api.ErrNone)
	doubled := file(num(1))
	for i := range 64 {
		doubled.Exprs = append(doubled.Exprs, plus(i, i))
	}
	checkEval(t, doubled, 63, nil, 1<<63, api.OK)
	checkEval(t, doubled, 64, nil, 0, api.ErrNum)
	// Not evaluable only at the very beginning.
	zero.Exprs[0] = not(0)
	checkEval(t, zero, 200, nil, 0, api.ErrArg)
}

// P10.2 and P1: as many levels as the document promises for, and many more.
func TestDeep(t *testing.T) {
	for _, levels := range []int{1 << 16, 1 << 20} {
		nots, sums := file(num(0), num(1)), file(num(0), num(1))
		for i := range levels {
			nots.Exprs = append(nots.Exprs, not(i+1))
			sums.Exprs = append(sums.Exprs, plus(0, i+1))
		}
		checkEval(t, nots, levels+1, nil, 1, api.OK)
		checkEval(t, nots, levels, nil, 0, api.OK)
		checkEval(t, sums, levels+1, nil, 1, api.OK)
		nots.Exprs[1], sums.Exprs[1] = name("x"), not()
		checkEval(t, nots, levels+1, nil, 0, api.ErrNone)
		checkEval(t, sums, levels+1, nil, 0, api.ErrArg)
	}
}

// P10.2: the steps are those of the parts, not of the whole list.
func TestSmallPartOfMany(t *testing.T) {
	f := file(num(1), num(2), plus(0, 1))
	f.Exprs = append(f.Exprs, slices.Repeat([]parse.Expr{not(2)}, 1<<20)...)
	for i := range 1 << 16 {
		checkEval(t, f, len(f.Exprs)-1-i, nil, 0, api.OK)
	}
}

// Rules 4 and 7: arguments are left as they are, and no call hangs on another.
func TestArguments(t *testing.T) {
	s := "const K = 5; struct S { a: bytes[n + K * !m]; b: u8 where b - 1 / m; }"
	f, e := parsed(t, s), Env{{"n", 3}, {"m", 0}, {"K", 5}, {"b", 9}}
	for range 3 {
		checkEval(t, f, 5, e, 8, api.OK)
		checkEval(t, f, 10, e, 0, api.ErrZero)
		checkEval(t, f, 5, e[:1], 0, api.ErrNone)
	}
	if !reflect.DeepEqual(f, parsed(t, s)) {
		t.Errorf("the file was changed")
	}
	checkEnv(t, e, Env{{"n", 3}, {"m", 0}, {"K", 5}, {"b", 9}})
	// The same File with another number in it is evaluated anew.
	f.Exprs[0].Name = "b"
	checkEval(t, f, 5, e, 14, api.OK)
}
