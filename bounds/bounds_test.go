package bounds

import (
	"math"
	"testing"
)

const most = math.MaxUint64

// edges are numbers at which one operator or another changes its ways.
func edges() []uint64 {
	return []uint64{0, 1, 2, 3, 5, 62, 63, 64, 65, 255, 256, 1<<32 - 1, 1 << 32, 1<<63 - 1, 1 << 63, most - 1, most}
}

func checkRange(t *testing.T, what string, got, want Range) {
	t.Helper()
	if got != want {
		t.Errorf("%s = %v; want %v", what, got, want)
	}
}

// P11.1
func TestPoint(t *testing.T) {
	for _, n := range edges() {
		checkRange(t, "Point", Point(n), Range{n, n})
	}
}

// P11.1
func TestAll(t *testing.T) {
	for bits := range 64 {
		checkRange(t, "All", All(bits), Range{0, 1<<bits - 1})
	}
	for _, bits := range []int{64, 65, 127, 128, 1 << 32, math.MaxInt - 1, math.MaxInt} {
		checkRange(t, "All", All(bits), Range{0, most})
	}
	for _, bits := range []int{0, -1, -2, -64, -1 << 32, math.MinInt + 1, math.MinInt} {
		checkRange(t, "All", All(bits), Range{0, 0})
	}
}

func checkHas(t *testing.T, r Range, n uint64, want bool) {
	t.Helper()
	if got := r.Has(n); got != want {
		t.Errorf("%v.Has(%d) = %t", r, n, got)
	}
}

// P11.1
func TestHas(t *testing.T) {
	r := Range{3, 9}
	for n := range uint64(20) {
		checkHas(t, r, n, 3 <= n && n <= 9)
	}
	checkHas(t, r, most, false)
	checkHas(t, r, 1<<32+5, false)
	for _, n := range edges() {
		checkHas(t, Range{0, most}, n, true)
		checkHas(t, Point(n), n, true)
		checkHas(t, Point(n), n+1, false)
		checkHas(t, Point(n), n-1, false)
		checkHas(t, Range{n, most}, n, true)
		checkHas(t, Range{0, n}, n, true)
		checkHas(t, Range{n, most}, n-1, n == 0)
		checkHas(t, Range{0, n}, n+1, n == most)
	}
}

// P11.1: no number lies in a range that is not valid.
func TestHasInvalid(t *testing.T) {
	for _, r := range []Range{{1, 0}, {9, 3}, {most, 0}, {most, most - 1}, {1 << 63, 1<<63 - 1}} {
		for _, n := range append(edges(), 4, 9) {
			checkHas(t, r, n, false)
		}
	}
}

// P11.1
func TestJoin(t *testing.T) {
	for _, x := range [][3]Range{
		{{3, 9}, {5, 6}, {3, 9}}, {{3, 5}, {4, 9}, {3, 9}}, {{3, 4}, {8, 9}, {3, 9}}, {{3, 3}, {3, 3}, {3, 3}},
		{{0, 0}, {most, most}, {0, most}}, {{0, most}, {1, 1}, {0, most}}, {{1, 2}, {0, 0}, {0, 2}},
		// Also of ranges that are not valid.
		{{9, 3}, {5, 6}, {5, 6}}, {{9, 3}, {1, 2}, {1, 3}}, {{9, 3}, {8, 2}, {8, 3}}, {{most, 0}, {most, 0}, {most, 0}}, {{9, 3}, {12, 14}, {9, 14}},
	} {
		checkRange(t, "Join", x[0].Join(x[1]), x[2])
		checkRange(t, "Join", x[1].Join(x[0]), x[2])
		checkRange(t, "Join", x[0].Join(x[0]), x[0])
	}
}

// P11.1: what lies in one of two ranges lies in their Join.
func TestJoinHas(t *testing.T) {
	for _, a := range pairs(edges()) {
		for _, b := range pairs(edges()) {
			r := a.Join(b)
			for _, n := range edges() {
				if (a.Has(n) || b.Has(n)) && !r.Has(n) {
					t.Fatalf("%v.Join(%v) = %v has no %d", a, b, r, n)
				}
			}
			if r.Lo != a.Lo && r.Lo != b.Lo || r.Hi != a.Hi && r.Hi != b.Hi {
				t.Fatalf("%v.Join(%v) = %v", a, b, r)
			}
		}
	}
}

// pairs are all ranges of some numbers, in any order.
func pairs(list []uint64) []Range {
	var all []Range
	for _, lo := range list {
		for _, hi := range list {
			all = append(all, Range{lo, hi})
		}
	}
	return all
}
