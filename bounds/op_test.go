package bounds

import (
	"math/big"
	"math/rand"
	"slices"
	"testing"

	"calliper/api"
	"calliper/word"
)

// operators are those of layer 1.
func operators() []string {
	return []string{"||", "&&", "==", "!=", "<", "<=", ">", ">=", "|", "&", "<<", ">>", "+", "-", "*", "/", "%"}
}

// noOperators are others.
func noOperators() []string {
	return []string{"", "?", "!", "=", "^", "and", "+ ", " +", "++", "&&&", "|||", "<<<", "=>", "=<", "\x00", "\xff", "..", "<>", "%%", "//"}
}

func checkOp(t *testing.T, op string, a, b, want Range, ok bool) {
	t.Helper()
	if got, gotOK := Op(op, a, b); got != want || gotOK != ok {
		t.Errorf("Op(%.20q, %v, %v) = %v, %t; want %v, %t", op, a, b, got, gotOK, want, ok)
	}
}

// The chapter's example.
func TestExample(t *testing.T) {
	checkOp(t, "-", Range{3, 9}, Range{5, 6}, Range{0, 4}, true)
	checkOf(t, "a - b", []Var{{"a", Range{3, 9}}, {"b", Range{5, 6}}}, Range{0, 4}, true)
}

// P11.2: fixed results of each row of the table.
func TestTable(t *testing.T) {
	for _, x := range []struct {
		op      string
		a, b, r Range
		ok      bool
	}{
		{"+", Range{1, 2}, Range{3, 4}, Range{4, 6}, true},
		{"+", Range{1, 2}, Range{most - 1, most}, Range{most, most}, true},
		{"+", Range{1, 2}, Range{most, most}, Range{}, false},
		{"+", Range{0, 1}, Range{most, most}, Range{most, most}, true},
		{"+", Range{0, most}, Range{0, most}, Range{0, most}, true},
		{"-", Range{3, 9}, Range{1, 2}, Range{1, 8}, true},
		{"-", Range{3, 9}, Range{3, 3}, Range{0, 6}, true},
		{"-", Range{3, 9}, Range{9, 10}, Range{0, 0}, true},
		{"-", Range{3, 9}, Range{10, 11}, Range{}, false},
		{"-", Range{0, most}, Range{0, most}, Range{0, most}, true},
		{"-", Range{0, 0}, Range{1, most}, Range{}, false},
		{"*", Range{2, 3}, Range{4, 5}, Range{8, 15}, true},
		{"*", Range{0, 3}, Range{most, most}, Range{0, most}, true},
		{"*", Range{2, 3}, Range{1 << 63, most}, Range{}, false},
		{"*", Range{2, 3}, Range{1<<63 - 1, most}, Range{most - 1, most}, true},
		{"/", Range{8, 9}, Range{2, 3}, Range{2, 4}, true},
		{"/", Range{8, 9}, Range{0, 3}, Range{2, 9}, true},
		{"/", Range{8, 9}, Range{1, 3}, Range{2, 9}, true},
		{"/", Range{8, 9}, Range{0, 0}, Range{}, false},
		{"/", Range{0, 9}, Range{10, most}, Range{0, 0}, true},
		{"%", Range{8, 9}, Range{3, 4}, Range{0, 3}, true},
		{"%", Range{8, 9}, Range{10, 20}, Range{0, 9}, true},
		{"%", Range{8, 9}, Range{9, 10}, Range{0, 9}, true},
		{"%", Range{8, 9}, Range{8, 9}, Range{0, 8}, true},
		{"%", Range{8, 9}, Range{0, 1}, Range{0, 0}, true},
		{"%", Range{8, 9}, Range{0, 0}, Range{}, false},
		{"<<", Range{1, 2}, Range{3, 4}, Range{8, 32}, true},
		{"<<", Range{1, 2}, Range{62, 63}, Range{1 << 62, most}, true},
		{"<<", Range{2, 3}, Range{63, 63}, Range{}, false},
		{"<<", Range{0, 3}, Range{63, 63}, Range{0, most}, true},
		{"<<", Range{0, 0}, Range{63, 64}, Range{0, most}, true},
		{"<<", Range{0, 1}, Range{64, 64}, Range{}, false},
		{"<<", Range{0, 0}, Range{0, 63}, Range{0, 0}, true},
		{">>", Range{16, 32}, Range{1, 2}, Range{4, 16}, true},
		{">>", Range{0, most}, Range{0, most}, Range{0, most}, true},
		{">>", Range{1 << 63, most}, Range{63, most}, Range{1, 1}, true},
		{">>", Range{most, most}, Range{60, 63}, Range{1, 15}, true},
		{">>", Range{most, most}, Range{60, 64}, Range{1, 15}, true},
		{">>", Range{0, most}, Range{64, 65}, Range{}, false},
		{">>", Range{0, 1}, Range{64, 64}, Range{}, false},
		{"&", Range{5, 9}, Range{3, 6}, Range{0, 6}, true},
		{"&", Range{7, 7}, Range{7, 8}, Range{0, 7}, true},
		{"&", Range{0, most}, Range{1, most}, Range{0, most}, true},
		{"|", Range{5, 9}, Range{3, 6}, Range{5, 15}, true},
		{"|", Range{0, 0}, Range{0, 1}, Range{0, 1}, true},
		{"|", Range{0, 8}, Range{7, 7}, Range{7, 15}, true},
		{"|", Range{0, 7}, Range{7, 7}, Range{7, 7}, true},
		{"|", Range{1, 1 << 63}, Range{2, 3}, Range{2, most}, true},
		{"==", Range{1, 2}, Range{8, 9}, Range{0, 1}, true},
		{"<", Range{1, 2}, Range{8, 9}, Range{0, 1}, true},
		{"&&", Range{1, 2}, Range{8, 9}, Range{0, 1}, true},
		{"||", Range{0, 0}, Range{0, 1}, Range{0, 1}, true},
	} {
		checkOp(t, x.op, x.a, x.b, x.r, x.ok)
	}
}

// clip is the number of an exact one, or the maximum if that is less.
func clip(n *big.Int) uint64 {
	if !n.IsUint64() {
		return most
	}
	return n.Uint64()
}

func exact(n uint64) *big.Int { return new(big.Int).SetUint64(n) }

func moved(a, by uint64) *big.Int { return new(big.Int).Lsh(exact(a), uint(by)) }

// row is the table's row of an operator for ranges that are not both points, by exact
// arithmetic.
func row(op string, a, b Range) (Range, bool) {
	n := new(big.Int)
	switch op {
	case "+":
		lo, hi := n.Add(exact(a.Lo), exact(b.Lo)), new(big.Int).Add(exact(a.Hi), exact(b.Hi))
		return Range{clip(lo), clip(hi)}, lo.IsUint64()
	case "-":
		lo, hi := n.Sub(exact(a.Lo), exact(b.Hi)), new(big.Int).Sub(exact(a.Hi), exact(b.Lo))
		if lo.Sign() < 0 {
			lo = new(big.Int)
		}
		return Range{clip(lo), clip(hi)}, hi.Sign() >= 0
	case "*":
		lo, hi := n.Mul(exact(a.Lo), exact(b.Lo)), new(big.Int).Mul(exact(a.Hi), exact(b.Hi))
		return Range{clip(lo), clip(hi)}, lo.IsUint64()
	case "/":
		if b.Hi == 0 {
			return Range{}, false
		}
		if b.Lo == 0 {
			return Range{a.Lo / b.Hi, a.Hi}, true
		}
		return Range{a.Lo / b.Hi, a.Hi / b.Lo}, true
	case "%":
		if b.Hi <= a.Hi {
			return Range{0, b.Hi - 1}, b.Hi != 0
		}
		return Range{0, a.Hi}, true
	case "<<":
		if b.Lo > 63 || !moved(a.Lo, b.Lo).IsUint64() {
			return Range{}, false
		}
		if b.Hi > 63 {
			return Range{moved(a.Lo, b.Lo).Uint64(), most}, true
		}
		return Range{moved(a.Lo, b.Lo).Uint64(), clip(moved(a.Hi, b.Hi))}, true
	case ">>":
		if b.Hi > 63 {
			b.Hi = 63
		}
		return Range{n.Rsh(exact(a.Lo), uint(b.Hi)).Uint64(), new(big.Int).Rsh(exact(a.Hi), uint(b.Lo)).Uint64()}, b.Lo <= 63
	case "&":
		return Range{0, slices.Min([]uint64{a.Hi, b.Hi})}, true
	case "|":
		digits := len(exact(slices.Max([]uint64{a.Hi, b.Hi})).Text(2))
		return Range{slices.Max([]uint64{a.Lo, b.Lo}), n.Sub(moved(1, uint64(digits)), big.NewInt(1)).Uint64()}, true
	}
	return Range{0, 1}, true
}

// meant is what Op returns, by the words of the chapter.
func meant(op string, a, b Range) (Range, bool) {
	if a.Lo > a.Hi || b.Lo > b.Hi || !slices.Contains(operators(), op) {
		return Range{}, false
	}
	if a.Lo == a.Hi && b.Lo == b.Hi {
		n, err := word.Op(op, a.Lo, b.Lo)
		return Range{n, n}, err == api.OK
	}
	r, ok := row(op, a, b)
	if !ok {
		return Range{}, false
	}
	return r, true
}

// P11.2: all operators on all ranges between edges, valid or not.
func TestEdges(t *testing.T) {
	for _, op := range append(operators(), "?", "") {
		for _, a := range pairs(edges()) {
			for _, b := range pairs(edges()) {
				want, ok := meant(op, a, b)
				if checkOp(t, op, a, b, want, ok); t.Failed() {
					return
				}
			}
		}
	}
}

// P11.2: two points.
func TestPoints(t *testing.T) {
	for _, op := range operators() {
		for _, a := range edges() {
			for _, b := range edges() {
				n, err := word.Op(op, a, b)
				checkOp(t, op, Point(a), Point(b), Point(n), err == api.OK)
			}
		}
	}
	checkOp(t, "+", Point(3), Point(4), Point(7), true)
	checkOp(t, "-", Point(3), Point(4), Range{}, false)
	checkOp(t, "/", Point(3), Point(0), Range{}, false)
	checkOp(t, "%", Point(9), Point(4), Point(1), true)
	checkOp(t, "<<", Point(0), Point(64), Range{}, false)
	checkOp(t, ">>", Point(1), Point(64), Range{}, false)
	checkOp(t, "&", Point(6), Point(3), Point(2), true)
	checkOp(t, "|", Point(6), Point(3), Point(7), true)
	checkOp(t, "|", Point(0), Point(0), Point(0), true)
	checkOp(t, "<", Point(3), Point(4), Point(1), true)
	checkOp(t, ">=", Point(3), Point(4), Point(0), true)
	checkOp(t, "&&", Point(3), Point(0), Point(0), true)
	checkOp(t, "||", Point(3), Point(0), Point(1), true)
}

// P11.2: ranges that are not valid, with every operator.
func TestInvalidRanges(t *testing.T) {
	good := []Range{{0, 0}, {3, 9}, {0, most}, {most, most}}
	for _, op := range append(operators(), noOperators()...) {
		for _, bad := range []Range{{1, 0}, {9, 3}, {most, 0}, {most, most - 1}, {1 << 63, 1<<63 - 1}} {
			for _, r := range good {
				checkOp(t, op, bad, r, Range{}, false)
				checkOp(t, op, r, bad, Range{}, false)
			}
			checkOp(t, op, bad, bad, Range{}, false)
		}
	}
}

// P11.2: strings that are no operators, on points and on others.
func TestNoOperator(t *testing.T) {
	long := string(slices.Repeat([]byte("+"), 1<<20))
	for _, op := range append(noOperators(), long, "\n+", "≤") {
		for _, a := range []Range{{0, 0}, {1, 1}, {3, 9}, {0, most}} {
			for _, b := range []Range{{0, 0}, {1, 1}, {3, 9}, {0, most}} {
				checkOp(t, op, a, b, Range{}, false)
			}
		}
	}
}

// P11.2: ranges by chance, of numbers of all sizes.
func TestRangesByChance(t *testing.T) {
	r := rand.New(rand.NewSource(1))
	number := func() uint64 { return r.Uint64() >> r.Intn(64) }
	some := func() Range {
		lo, hi := number(), number()
		if lo > hi && r.Intn(20) > 0 {
			lo, hi = hi, lo
		}
		return Range{lo, hi}
	}
	for range 200000 {
		op, a, b := operators()[r.Intn(17)], some(), some()
		want, ok := meant(op, a, b)
		if checkOp(t, op, a, b, want, ok); t.Failed() {
			return
		}
	}
}
