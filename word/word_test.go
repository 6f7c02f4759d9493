package word

import (
	"math"
	"math/big"
	"strings"
	"testing"

	"calliper/api"
)

const most = math.MaxUint64

// edges are the numbers at which an operation's result begins to fail, or to
// look otherwise.
func edges() []uint64 {
	l := []uint64{0, 1, 2, 3, 5, 7, 10, 62, 63, 64, 65, 127, 128, 255, 256, 1000, most / 3, most/2 - 1, most - 2, most - 1, most}
	for n := 8; n < 64; n += 5 {
		l = append(l, 1<<n-1, 1<<n, 1<<n+1)
	}
	return append(l, 1<<32-1, 1<<32, 1<<32+1, 1<<63-1, 1<<63, 1<<63+1)
}

func exact(n uint64) *big.Int { return new(big.Int).SetUint64(n) }

// held is what a checked operation owes for an exact result.
func held(n *big.Int) (uint64, api.Errno) {
	if n.Sign() < 0 || n.BitLen() > 64 {
		return 0, api.ErrNum
	}
	return n.Uint64(), api.OK
}

type row struct {
	a, b, want uint64
	err        api.Errno
}

type operation func(a, b uint64) (uint64, api.Errno)

func checkRows(t *testing.T, name string, f operation, rows []row) {
	t.Helper()
	for _, x := range rows {
		if n, err := f(x.a, x.b); n != x.want || err != x.err {
			t.Errorf("%s(%d, %d) = %d, %v; want %d, %v", name, x.a, x.b, n, err, x.want, x.err)
		}
	}
}

func checkEdges(t *testing.T, name string, f, want operation) {
	t.Helper()
	for _, a := range edges() {
		for _, b := range edges() {
			n, err := f(a, b)
			if m, e := want(a, b); n != m || err != e {
				t.Errorf("%s(%d, %d) = %d, %v; want %d, %v", name, a, b, n, err, m, e)
			}
		}
	}
}

// P1.1
func TestAddSubMul(t *testing.T) {
	checkRows(t, "Add", Add, []row{
		{2, 3, 5, api.OK}, {0, 0, 0, api.OK}, {most, 0, most, api.OK}, {0, most, most, api.OK},
		{most - 1, 1, most, api.OK}, {most, 1, 0, api.ErrNum}, {1, most, 0, api.ErrNum},
		{1 << 63, 1 << 63, 0, api.ErrNum}, {most, most, 0, api.ErrNum},
	})
	checkRows(t, "Sub", Sub, []row{
		{5, 3, 2, api.OK}, {3, 3, 0, api.OK}, {0, 0, 0, api.OK}, {most, most, 0, api.OK},
		{most, 0, most, api.OK}, {3, 5, 0, api.ErrNum}, {0, 1, 0, api.ErrNum}, {0, most, 0, api.ErrNum},
	})
	checkRows(t, "Mul", Mul, []row{
		{6, 7, 42, api.OK}, {0, most, 0, api.OK}, {most, 0, 0, api.OK}, {1, most, most, api.OK},
		{1 << 32, 1 << 31, 1 << 63, api.OK}, {1<<32 - 1, 1<<32 + 1, most, api.OK},
		{1 << 32, 1 << 32, 0, api.ErrNum}, {most, 2, 0, api.ErrNum}, {most, most, 0, api.ErrNum},
	})
	checkEdges(t, "Add", Add, func(a, b uint64) (uint64, api.Errno) {
		return held(new(big.Int).Add(exact(a), exact(b)))
	})
	checkEdges(t, "Sub", Sub, func(a, b uint64) (uint64, api.Errno) {
		return held(new(big.Int).Sub(exact(a), exact(b)))
	})
	checkEdges(t, "Mul", Mul, func(a, b uint64) (uint64, api.Errno) {
		return held(new(big.Int).Mul(exact(a), exact(b)))
	})
}

// P1.1
func TestDivMod(t *testing.T) {
	checkRows(t, "Div", Div, []row{
		{7, 2, 3, api.OK}, {6, 3, 2, api.OK}, {2, 7, 0, api.OK}, {0, 5, 0, api.OK}, {most, 1, most, api.OK},
		{most, most, 1, api.OK}, {7, 0, 0, api.ErrZero}, {0, 0, 0, api.ErrZero}, {most, 0, 0, api.ErrZero},
	})
	checkRows(t, "Mod", Mod, []row{
		{7, 2, 1, api.OK}, {6, 3, 0, api.OK}, {2, 7, 2, api.OK}, {0, 5, 0, api.OK}, {most, 1, 0, api.OK},
		{most, most, 0, api.OK}, {7, 0, 0, api.ErrZero}, {0, 0, 0, api.ErrZero}, {most, 0, 0, api.ErrZero},
	})
	checkEdges(t, "Div", Div, func(a, b uint64) (uint64, api.Errno) {
		if b == 0 {
			return 0, api.ErrZero
		}
		return held(new(big.Int).Quo(exact(a), exact(b)))
	})
	checkEdges(t, "Mod", Mod, func(a, b uint64) (uint64, api.Errno) {
		if b == 0 {
			return 0, api.ErrZero
		}
		return held(new(big.Int).Rem(exact(a), exact(b)))
	})
}

// P1.2
func TestShl(t *testing.T) {
	checkRows(t, "Shl", Shl, []row{
		{1, 0, 1, api.OK}, {3, 4, 48, api.OK}, {1, 63, 1 << 63, api.OK}, {most, 0, most, api.OK},
		{1<<63 - 1, 1, most - 1, api.OK}, {0, 0, 0, api.OK}, {0, 63, 0, api.OK},
		{2, 63, 0, api.ErrNum}, {3, 63, 0, api.ErrNum}, {most, 1, 0, api.ErrNum}, {1 << 63, 1, 0, api.ErrNum},
		{0, 64, 0, api.ErrNum}, {1, 64, 0, api.ErrNum}, {1, 65, 0, api.ErrNum}, {0, most, 0, api.ErrNum},
		{1, 1 << 32, 0, api.ErrNum}, {1, most, 0, api.ErrNum},
	})
	checkEdges(t, "Shl", Shl, func(a, n uint64) (uint64, api.Errno) {
		if n > 63 {
			return 0, api.ErrNum
		}
		return held(new(big.Int).Lsh(exact(a), uint(n)))
	})
}

// P1.2
func TestShr(t *testing.T) {
	checkRows(t, "Shr", Shr, []row{
		{48, 4, 3, api.OK}, {7, 1, 3, api.OK}, {1, 0, 1, api.OK}, {most, 0, most, api.OK},
		{most, 63, 1, api.OK}, {1<<63 - 1, 63, 0, api.OK}, {0, 63, 0, api.OK},
		{1, 64, 0, api.ErrNum}, {0, 64, 0, api.ErrNum}, {most, 65, 0, api.ErrNum},
		{1, 1 << 32, 0, api.ErrNum}, {1, most, 0, api.ErrNum},
	})
	checkEdges(t, "Shr", Shr, func(a, n uint64) (uint64, api.Errno) {
		if n > 63 {
			return 0, api.ErrNum
		}
		return held(new(big.Int).Rsh(exact(a), uint(n)))
	})
}

// P1.3
func TestMask(t *testing.T) {
	power := big.NewInt(1)
	for bits := 0; bits <= 64; bits++ {
		want := new(big.Int).Sub(power, big.NewInt(1)).Uint64()
		if n := Mask(bits); n != want {
			t.Errorf("Mask(%d) = %d; want %d", bits, n, want)
		}
		power.Lsh(power, 1)
	}
	for _, bits := range []int{-1, -2, -63, -64, -65, math.MinInt32, math.MinInt + 1, math.MinInt} {
		if n := Mask(bits); n != 0 {
			t.Errorf("Mask(%d) = %d; want 0", bits, n)
		}
	}
	for _, bits := range []int{65, 66, 127, 128, 1000, math.MaxInt32, 1 << 32, 1<<32 + 8, math.MaxInt} {
		if n := Mask(bits); n != most {
			t.Errorf("Mask(%d) = %d; want 2^64 - 1", bits, n)
		}
	}
}

// P1.3
func TestFits(t *testing.T) {
	for _, x := range []struct {
		a    uint64
		bits int
		want bool
	}{
		{0, 0, true}, {1, 0, false}, {1, 1, true}, {2, 1, false}, {255, 8, true}, {256, 8, false},
		{1<<63 - 1, 63, true}, {1 << 63, 63, false}, {most, 63, false}, {most, 64, true}, {most, 65, true},
		{most, math.MaxInt, true}, {0, -1, true}, {1, -1, false}, {most, -1, false},
		{0, math.MinInt, true}, {1, math.MinInt, false},
	} {
		if got := Fits(x.a, x.bits); got != x.want {
			t.Errorf("Fits(%d, %d) = %t", x.a, x.bits, got)
		}
	}
	for bits := 1; bits < 64; bits++ {
		if !Fits(1<<bits-1, bits) || Fits(1<<bits, bits) {
			t.Errorf("Fits is wrong about %d bits", bits)
		}
	}
}

// P1.3
func TestTruth(t *testing.T) {
	if Truth(true) != 1 || Truth(false) != 0 {
		t.Errorf("Truth: %d, %d", Truth(true), Truth(false))
	}
}

func decided(f func(a, b uint64) bool) operation {
	return func(a, b uint64) (uint64, api.Errno) {
		if f(a, b) {
			return 1, api.OK
		}
		return 0, api.OK
	}
}

func operators() map[string]operation {
	return map[string]operation{
		"+": Add, "-": Sub, "*": Mul, "/": Div, "%": Mod, "<<": Shl, ">>": Shr,
		"&":  func(a, b uint64) (uint64, api.Errno) { return held(new(big.Int).And(exact(a), exact(b))) },
		"|":  func(a, b uint64) (uint64, api.Errno) { return held(new(big.Int).Or(exact(a), exact(b))) },
		"==": decided(func(a, b uint64) bool { return exact(a).Cmp(exact(b)) == 0 }),
		"!=": decided(func(a, b uint64) bool { return exact(a).Cmp(exact(b)) != 0 }),
		"<":  decided(func(a, b uint64) bool { return exact(a).Cmp(exact(b)) < 0 }),
		"<=": decided(func(a, b uint64) bool { return exact(a).Cmp(exact(b)) <= 0 }),
		">":  decided(func(a, b uint64) bool { return exact(a).Cmp(exact(b)) > 0 }),
		">=": decided(func(a, b uint64) bool { return exact(a).Cmp(exact(b)) >= 0 }),
		"&&": decided(func(a, b uint64) bool { return exact(a).Sign()*exact(b).Sign() == 1 }),
		"||": decided(func(a, b uint64) bool { return exact(a).Sign()+exact(b).Sign() >= 1 }),
	}
}

// P1.4
func TestOpAtEdges(t *testing.T) {
	for op, want := range operators() {
		checkEdges(t, op, func(a, b uint64) (uint64, api.Errno) { return Op(op, a, b) }, want)
	}
}

// P1.4
func TestOpInRows(t *testing.T) {
	for op, rows := range map[string][]row{
		"+":  {{2, 3, 5, api.OK}, {most, 1, 0, api.ErrNum}},
		"-":  {{5, 3, 2, api.OK}, {3, 5, 0, api.ErrNum}},
		"*":  {{2, 3, 6, api.OK}, {1 << 32, 1 << 32, 0, api.ErrNum}},
		"/":  {{7, 2, 3, api.OK}, {7, 0, 0, api.ErrZero}},
		"%":  {{7, 2, 1, api.OK}, {7, 0, 0, api.ErrZero}},
		"<<": {{1, 63, 1 << 63, api.OK}, {2, 63, 0, api.ErrNum}, {0, 64, 0, api.ErrNum}},
		">>": {{most, 63, 1, api.OK}, {0, 64, 0, api.ErrNum}},
		"&":  {{6, 3, 2, api.OK}, {most, 0, 0, api.OK}, {most, most, most, api.OK}},
		"|":  {{6, 3, 7, api.OK}, {most, 0, most, api.OK}, {0, 0, 0, api.OK}},
		"==": {{3, 3, 1, api.OK}, {3, 4, 0, api.OK}},
		"!=": {{3, 3, 0, api.OK}, {3, 4, 1, api.OK}},
		"<":  {{2, 3, 1, api.OK}, {3, 3, 0, api.OK}, {3, 2, 0, api.OK}, {1, most, 1, api.OK}},
		"<=": {{2, 3, 1, api.OK}, {3, 3, 1, api.OK}, {3, 2, 0, api.OK}, {most, 1, 0, api.OK}},
		">":  {{2, 3, 0, api.OK}, {3, 3, 0, api.OK}, {3, 2, 1, api.OK}, {most, 1, 1, api.OK}},
		">=": {{2, 3, 0, api.OK}, {3, 3, 1, api.OK}, {3, 2, 1, api.OK}, {1, most, 0, api.OK}},
		"&&": {{2, 4, 1, api.OK}, {2, 0, 0, api.OK}, {0, 4, 0, api.OK}, {0, 0, 0, api.OK}},
		"||": {{2, 4, 1, api.OK}, {2, 0, 1, api.OK}, {0, 4, 1, api.OK}, {0, 0, 0, api.OK}},
	} {
		checkRows(t, op, func(a, b uint64) (uint64, api.Errno) { return Op(op, a, b) }, rows)
	}
}

// P1.4
func TestOpOfOtherStrings(t *testing.T) {
	known := operators()
	others := []string{
		"", " ", "=", "!", "~", "^", "&^", "**", "//", "<>", "><", "=<", "=>", "===", "!==", "<<<", ">>>", "&&&", "|||",
		"+=", "<<=", " +", "+ ", "+\n", "+\x00", "\x00", "\xff", "add", "Add", "&& ", "０", "≤", "×", "÷",
		strings.Repeat("+", 1<<16),
	}
	for c := range 256 {
		others = append(others, string([]byte{byte(c)}))
		for d := range 256 {
			others = append(others, string([]byte{byte(c), byte(d)}))
		}
	}
	for _, op := range others {
		if _, ok := known[op]; ok {
			continue
		}
		// With b = 0 an operator that is wrongly seen in the text shows by another error.
		for _, b := range []uint64{0, 1, most} {
			if n, err := Op(op, 1, b); n != 0 || err != api.ErrForm {
				t.Errorf("Op(%.20q, 1, %d) = %d, %v; want 0, %v", op, b, n, err, api.ErrForm)
			}
		}
	}
}

// The chapter's examples.
func TestExamples(t *testing.T) {
	if n, err := Sub(3, 5); n != 0 || err != api.ErrNum {
		t.Errorf("Sub(3, 5) = %d, %v", n, err)
	}
	if n, err := Shl(1, 63); n != 9223372036854775808 || err != api.OK {
		t.Errorf("Shl(1, 63) = %d, %v", n, err)
	}
	if n, err := Shl(2, 63); n != 0 || err != api.ErrNum {
		t.Errorf("Shl(2, 63) = %d, %v", n, err)
	}
	if n, err := Op("&&", 2, 4); n != 1 || err != api.OK {
		t.Errorf("Op(&&, 2, 4) = %d, %v", n, err)
	}
}
