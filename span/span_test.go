package span

import (
	"math"
	"math/big"
	"strings"
	"testing"

	"calliper/api"
)

// edges are the numbers at which a span begins or ceases to be valid, or at
// which a sum or a difference wraps round.
func edges() []int {
	return []int{
		math.MinInt, math.MinInt + 1, math.MinInt + 2, -(1 << 62) - 1, -(1 << 62), -(1 << 32), -5, -2, -1,
		0, 1, 2, 3, 5, 255, 256, 1<<31 - 1, 1 << 31, 1 << 32, 1<<32 + 1, 1<<61 - 1, 1 << 61, 1<<61 + 1,
		1<<62 - 2, 1<<62 - 1, 1 << 62, 1<<62 + 1, math.MaxInt - 1, math.MaxInt,
	}
}

// pairs are the spans of all these numbers.
func pairs(numbers []int) []Span {
	var l []Span
	for _, at := range numbers {
		for _, size := range numbers {
			l = append(l, Span{at, size})
		}
	}
	return l
}

// small are all spans of a few bytes, and those that are not valid beside them.
func small() []Span {
	var numbers []int
	for n := -2; n <= 7; n++ {
		numbers = append(numbers, n)
	}
	return pairs(numbers)
}

// spans are those of the edges, and the small ones.
func spans() []Span { return append(pairs(edges()), small()...) }

func sum(s Span) *big.Int {
	return new(big.Int).Add(big.NewInt(int64(s.At)), big.NewInt(int64(s.Len)))
}

// fits is what Good owes, by exact sums.
func fits(s Span, n int) bool {
	return s.At >= 0 && s.Len >= 0 && sum(s).Cmp(big.NewInt(int64(n))) <= 0
}

func isValid(s Span) bool { return fits(s, 1<<62) }

func validSpans() []Span {
	var l []Span
	for _, s := range spans() {
		if isValid(s) {
			l = append(l, s)
		}
	}
	return l
}

func otherSpans() []Span {
	var l []Span
	for _, s := range spans() {
		if !isValid(s) {
			l = append(l, s)
		}
	}
	return l
}

func checkGood(t *testing.T, s Span, n int, want bool) {
	t.Helper()
	if got := s.Good(n); got != want {
		t.Errorf("%v.Good(%d) = %t", s, n, got)
	}
}

func checkEnd(t *testing.T, s Span, want int) {
	t.Helper()
	if n := s.End(); n != want {
		t.Errorf("%v.End() = %d; want %d", s, n, want)
	}
}

func checkTake(t *testing.T, s Span, n uint64, first, rest Span, err api.Errno) {
	t.Helper()
	if f, r, e := s.Take(n); f != first || r != rest || e != err {
		t.Errorf("%v.Take(%d) = %v, %v, %v; want %v, %v, %v", s, n, f, r, e, first, rest, err)
	}
}

func checkFrom(t *testing.T, s Span, at int, want Span, err api.Errno) {
	t.Helper()
	if r, e := s.From(at); r != want || e != err {
		t.Errorf("%v.From(%d) = %v, %v; want %v, %v", s, at, r, e, want, err)
	}
}

func checkHas(t *testing.T, s, o Span, want bool) {
	t.Helper()
	if got := s.Has(o); got != want {
		t.Errorf("%v.Has(%v) = %t", s, o, got)
	}
}

func checkText(t *testing.T, s Span, in, want string) {
	t.Helper()
	if got := s.Text(in); got != want {
		t.Errorf("%v.Text(%.20q), %d bytes = %.20q; want %.20q", s, in, len(in), got, want)
	}
}

func checkBetween(t *testing.T, a, b, want Span, err api.Errno) {
	t.Helper()
	if s, e := Between(a, b); s != want || e != err {
		t.Errorf("Between(%v, %v) = %v, %v; want %v, %v", a, b, s, e, want, err)
	}
}

// P5.1
func TestOf(t *testing.T) {
	for _, n := range edges() {
		want := Span{0, n}
		if n < 0 || n > 1<<62 {
			want = Span{}
		}
		if s := Of(n); s != want {
			t.Errorf("Of(%d) = %v; want %v", n, s, want)
		}
	}
}

// P5.1
func TestGoodInRows(t *testing.T) {
	for _, x := range []struct {
		s    Span
		n    int
		want bool
	}{
		{Span{}, 0, true}, {Span{}, 5, true}, {Span{}, -1, false}, {Span{}, math.MinInt, false},
		{Span{2, 3}, 5, true}, {Span{2, 3}, 6, true}, {Span{2, 3}, 4, false}, {Span{2, 3}, 0, false}, {Span{2, 3}, -5, false},
		{Span{5, 0}, 5, true}, {Span{6, 0}, 5, false}, {Span{0, 5}, 5, true}, {Span{0, 6}, 5, false},
		// Sums that are small enough, but have a part that is negative.
		{Span{-1, 1}, 5, false}, {Span{-1, 6}, 5, false}, {Span{6, -1}, 5, false}, {Span{0, -1}, 5, false},
		{Span{-1, 0}, 5, false}, {Span{-1, -1}, 5, false}, {Span{math.MinInt, math.MaxInt}, 5, false},
		// Sums that wrap round.
		{Span{math.MaxInt, 1}, math.MaxInt, false}, {Span{1, math.MaxInt}, math.MaxInt, false},
		{Span{math.MaxInt, math.MaxInt}, math.MaxInt, false}, {Span{1 << 62, 1 << 62}, math.MaxInt, false},
		{Span{math.MinInt, math.MinInt}, 5, false},
		// Good is asked for any number of bytes, even beyond those of a valid span.
		{Span{1 << 62, 1<<62 - 1}, math.MaxInt, true}, {Span{math.MaxInt, 0}, math.MaxInt, true},
		{Span{0, math.MaxInt}, math.MaxInt, true}, {Span{0, math.MaxInt}, math.MaxInt - 1, false},
		{Span{1, 1}, math.MinInt, false}, {Span{math.MaxInt, 1}, math.MinInt, false}, {Span{0, math.MaxInt}, -2, false},
	} {
		checkGood(t, x.s, x.n, x.want)
	}
}

// P5.1
func TestGoodAtEdges(t *testing.T) {
	for _, s := range spans() {
		for _, n := range edges() {
			checkGood(t, s, n, fits(s, n))
		}
		for n := -2; n <= 15; n++ {
			checkGood(t, s, n, fits(s, n))
		}
	}
}

// P5.1
func TestEnd(t *testing.T) {
	for _, x := range []struct {
		s    Span
		want int
	}{
		{Span{}, 0}, {Span{2, 3}, 5}, {Span{5, 0}, 5}, {Span{0, 5}, 5},
		{Span{-1, 5}, 0}, {Span{5, -1}, 0}, {Span{-1, -1}, 0}, {Span{math.MaxInt, 1}, 0}, {Span{math.MinInt, math.MinInt + 5}, 0},
		{Span{1 << 61, 1 << 61}, 1 << 62}, {Span{1 << 62, 0}, 1 << 62}, {Span{0, 1 << 62}, 1 << 62},
		// Valid for more bytes, but not for 2^62.
		{Span{1 << 61, 1<<61 + 1}, 0}, {Span{1 << 62, 1}, 0}, {Span{1, 1 << 62}, 0}, {Span{0, math.MaxInt}, 0}, {Span{math.MaxInt, 0}, 0},
	} {
		checkEnd(t, x.s, x.want)
	}
	for _, s := range validSpans() {
		checkEnd(t, s, int(sum(s).Int64()))
	}
	for _, s := range otherSpans() {
		checkEnd(t, s, 0)
	}
}

// P5.2
func TestTakeInRows(t *testing.T) {
	for _, x := range []struct {
		s           Span
		n           uint64
		first, rest Span
		err         api.Errno
	}{
		{Span{2, 3}, 0, Span{2, 0}, Span{2, 3}, api.OK},
		{Span{2, 3}, 1, Span{2, 1}, Span{3, 2}, api.OK},
		{Span{2, 3}, 3, Span{2, 3}, Span{5, 0}, api.OK},
		{Span{2, 3}, 4, Span{}, Span{}, api.ErrRange},
		{Span{}, 0, Span{}, Span{}, api.OK},
		{Span{7, 0}, 0, Span{7, 0}, Span{7, 0}, api.OK},
		{Span{7, 0}, 1, Span{}, Span{}, api.ErrRange},
		{Span{1, 1<<62 - 1}, 1 << 61, Span{1, 1 << 61}, Span{1 + 1<<61, 1<<61 - 1}, api.OK},
		{Span{0, 1 << 62}, 1 << 62, Span{0, 1 << 62}, Span{1 << 62, 0}, api.OK},
		{Span{0, 1 << 62}, 1<<62 + 1, Span{}, Span{}, api.ErrRange},
		// Numbers that a signed or a narrower integer would take for 0, 1 or -1.
		{Span{2, 3}, 1 << 32, Span{}, Span{}, api.ErrRange},
		{Span{2, 3}, 1<<32 + 1, Span{}, Span{}, api.ErrRange},
		{Span{2, 3}, 1 << 63, Span{}, Span{}, api.ErrRange},
		{Span{2, 3}, 1<<63 + 1, Span{}, Span{}, api.ErrRange},
		{Span{2, 3}, math.MaxUint64, Span{}, Span{}, api.ErrRange},
		// A span that is not valid comes before a number that is too great.
		{Span{-1, 3}, 0, Span{}, Span{}, api.ErrArg},
		{Span{2, -1}, 0, Span{}, Span{}, api.ErrArg},
		{Span{2, -1}, 1, Span{}, Span{}, api.ErrArg},
		{Span{1, 1 << 62}, 1, Span{}, Span{}, api.ErrArg},
		{Span{math.MaxInt, 1}, 2, Span{}, Span{}, api.ErrArg},
	} {
		checkTake(t, x.s, x.n, x.first, x.rest, x.err)
	}
}

// P5.2: what is taken and what is left lie side by side, and are all of it.
func TestTakeOfEverySpan(t *testing.T) {
	for _, s := range validSpans() {
		size := uint64(s.Len)
		for _, n := range []uint64{0, 1, 2, 5, 1 << 32, 1 << 61, size / 2, size - 1, size, size + 1, 1 << 62, 1 << 63, 1<<63 + size, math.MaxUint64} {
			if n > size {
				checkTake(t, s, n, Span{}, Span{}, api.ErrRange)
				continue
			}
			first := Span{s.At, int(n)}
			checkTake(t, s, n, first, Span{int(sum(first).Int64()), int(size - n)}, api.OK)
		}
	}
	for _, s := range otherSpans() {
		for _, n := range []uint64{0, 1, 5, uint64(s.Len), 1 << 63, math.MaxUint64} {
			checkTake(t, s, n, Span{}, Span{}, api.ErrArg)
		}
	}
}

// P5.2
func TestFromInRows(t *testing.T) {
	for _, x := range []struct {
		s    Span
		at   int
		want Span
		err  api.Errno
	}{
		{Span{2, 3}, 2, Span{2, 3}, api.OK},
		{Span{2, 3}, 4, Span{4, 1}, api.OK},
		{Span{2, 3}, 5, Span{5, 0}, api.OK},
		{Span{2, 3}, 1, Span{}, api.ErrRange},
		{Span{2, 3}, 6, Span{}, api.ErrRange},
		{Span{2, 3}, 0, Span{}, api.ErrRange},
		{Span{2, 3}, -2, Span{}, api.ErrRange},
		{Span{2, 3}, math.MinInt, Span{}, api.ErrRange},
		{Span{2, 3}, math.MaxInt, Span{}, api.ErrRange},
		{Span{}, 0, Span{}, api.OK},
		{Span{7, 0}, 7, Span{7, 0}, api.OK},
		{Span{0, 1 << 62}, 1<<62 - 1, Span{1<<62 - 1, 1}, api.OK},
		{Span{0, 1 << 62}, 1 << 62, Span{1 << 62, 0}, api.OK},
		{Span{0, 1 << 62}, 1<<62 + 1, Span{}, api.ErrRange},
		// A span that is not valid comes before an offset outside.
		{Span{-1, 3}, -1, Span{}, api.ErrArg},
		{Span{-1, 3}, 0, Span{}, api.ErrArg},
		{Span{-1, 3}, 9, Span{}, api.ErrArg},
		{Span{2, -1}, 2, Span{}, api.ErrArg},
		{Span{1, 1 << 62}, 1, Span{}, api.ErrArg},
		{Span{math.MaxInt, 1}, math.MaxInt, Span{}, api.ErrArg},
	} {
		checkFrom(t, x.s, x.at, x.want, x.err)
	}
}

// P5.2
func TestFromOfEverySpan(t *testing.T) {
	for _, s := range validSpans() {
		end := int(sum(s).Int64())
		for _, at := range append(edges(), 4, 6, 7, s.At-1, s.At, s.At+1, end-1, end, end+1) {
			if at < s.At || at > end {
				checkFrom(t, s, at, Span{}, api.ErrRange)
			} else {
				checkFrom(t, s, at, Span{at, end - at}, api.OK)
			}
		}
	}
	for _, s := range otherSpans() {
		for _, at := range append(edges(), s.At-1, s.At, s.At+1, s.At+s.Len) {
			checkFrom(t, s, at, Span{}, api.ErrArg)
		}
	}
}

// P5.3
func TestHasInRows(t *testing.T) {
	for _, x := range []struct {
		s, o Span
		want bool
	}{
		{Span{2, 3}, Span{2, 3}, true}, {Span{2, 3}, Span{2, 1}, true}, {Span{2, 3}, Span{3, 1}, true}, {Span{2, 3}, Span{4, 1}, true},
		{Span{2, 3}, Span{1, 1}, false}, {Span{2, 3}, Span{1, 4}, false}, {Span{2, 3}, Span{4, 2}, false}, {Span{2, 3}, Span{5, 1}, false},
		{Span{2, 3}, Span{1, 5}, false}, {Span{2, 3}, Span{0, 9}, false}, {Span{2, 3}, Span{2, 4}, false}, {Span{2, 3}, Span{9, 1}, false},
		// A span of no bytes has a place too.
		{Span{2, 3}, Span{2, 0}, true}, {Span{2, 3}, Span{5, 0}, true}, {Span{2, 3}, Span{1, 0}, false}, {Span{2, 3}, Span{6, 0}, false},
		{Span{2, 0}, Span{2, 0}, true}, {Span{2, 0}, Span{2, 1}, false}, {Span{2, 0}, Span{3, 0}, false}, {Span{}, Span{}, true},
		// Each of the two has to be valid.
		{Span{-1, 9}, Span{2, 3}, false}, {Span{-1, 9}, Span{-1, 9}, false}, {Span{2, 3}, Span{3, -1}, false}, {Span{2, -1}, Span{2, -1}, false},
		{Span{0, 9}, Span{-1, 1}, false}, {Span{0, math.MaxInt}, Span{2, 3}, false}, {Span{0, math.MaxInt}, Span{0, math.MaxInt}, false},
		{Span{0, 1 << 62}, Span{1, 1 << 62}, false}, {Span{0, 1 << 62}, Span{1 << 62, 0}, true}, {Span{0, 1 << 62}, Span{0, 1 << 62}, true},
		// Their ends, if they were not valid, would be 0.
		{Span{}, Span{0, -1}, false}, {Span{}, Span{0, math.MaxInt}, false}, {Span{}, Span{math.MaxInt, 1}, false}, {Span{-5, 9}, Span{}, false},
	} {
		checkHas(t, x.s, x.o, x.want)
	}
}

// P5.3
func TestHasOfEveryTwo(t *testing.T) {
	all := spans()
	for _, s := range all {
		for _, o := range all {
			want := isValid(s) && isValid(o) && o.At >= s.At && sum(o).Cmp(sum(s)) <= 0
			checkHas(t, s, o, want)
		}
	}
}

// P5.3
func TestTextInRows(t *testing.T) {
	for _, x := range []struct {
		s        Span
		in, want string
	}{
		{Span{2, 3}, "abcdef", "cde"}, {Span{2, 3}, "abcde", "cde"}, {Span{2, 3}, "abcd", ""}, {Span{2, 3}, "", ""},
		{Span{0, 6}, "abcdef", "abcdef"}, {Span{0, 7}, "abcdef", ""}, {Span{5, 1}, "abcdef", "f"}, {Span{6, 0}, "abcdef", ""},
		{Span{}, "", ""}, {Span{}, "abc", ""}, {Span{-1, 3}, "abc", ""}, {Span{1, -1}, "abc", ""}, {Span{3, -2}, "abc", ""},
		{Span{-2, -1}, "abc", ""}, {Span{math.MaxInt, 1}, "abc", ""}, {Span{1, math.MaxInt}, "abc", ""}, {Span{math.MinInt, math.MinInt}, "abc", ""},
		{Span{1 << 32, 1}, "abc", ""}, {Span{0, 1<<32 + 1}, "abc", ""},
		// Bytes are covered, not runes.
		{Span{1, 2}, "é€", "\xa9\xe2"}, {Span{1, 2}, "\x00\xff\x80\xc3", "\xff\x80"},
	} {
		checkText(t, x.s, x.in, x.want)
	}
}

// covered is the text of a span byte by byte.
func covered(s Span, in string) string {
	if !fits(s, len(in)) {
		return ""
	}
	var b []byte
	for i := range len(in) {
		if i >= s.At && i-s.At < s.Len {
			b = append(b, in[i])
		}
	}
	return string(b)
}

// P5.3
func TestTextOfEverySpan(t *testing.T) {
	for _, in := range []string{"", "a", "abcdefg", "abcdefghi", "\xff\x00\xc3\xa9", strings.Repeat("abcdefg", 50)} {
		for _, s := range spans() {
			checkText(t, s, in, covered(s, in))
		}
	}
	much := strings.Repeat("\xff\x00", 1<<19) + "end"
	checkText(t, Span{1 << 20, 3}, much, "end")
	checkText(t, Span{1 << 20, 4}, much, "")
	checkText(t, Of(len(much)), much, much)
}

// P5.3
func TestBetweenInRows(t *testing.T) {
	for _, x := range []struct {
		a, b, want Span
		err        api.Errno
	}{
		{Span{2, 3}, Span{7, 1}, Span{2, 6}, api.OK},
		{Span{2, 3}, Span{5, 1}, Span{2, 4}, api.OK},
		{Span{2, 3}, Span{2, 3}, Span{2, 3}, api.OK},
		// The end of a plays no part, nor does the start of b.
		{Span{2, 3}, Span{2, 1}, Span{2, 1}, api.OK},
		{Span{2, 3}, Span{0, 4}, Span{2, 2}, api.OK},
		{Span{4, 1}, Span{0, 9}, Span{4, 5}, api.OK},
		// b may end where a starts.
		{Span{4, 1}, Span{1, 3}, Span{4, 0}, api.OK},
		{Span{4, 0}, Span{4, 0}, Span{4, 0}, api.OK},
		{Span{4, 1}, Span{1, 2}, Span{}, api.ErrRange},
		{Span{4, 1}, Span{3, 0}, Span{}, api.ErrRange},
		{Span{4, 1}, Span{}, Span{}, api.ErrRange},
		{Span{1 << 62, 0}, Span{0, 1<<62 - 1}, Span{}, api.ErrRange},
		{Span{1 << 62, 0}, Span{0, 1 << 62}, Span{1 << 62, 0}, api.OK},
		{Span{}, Span{1 << 62, 0}, Span{0, 1 << 62}, api.OK},
		{Span{}, Span{}, Span{}, api.OK},
		// A span that is not valid comes before an end before a start.
		{Span{-1, 3}, Span{7, 1}, Span{}, api.ErrArg},
		{Span{2, 3}, Span{7, -1}, Span{}, api.ErrArg},
		{Span{2, -1}, Span{7, 1}, Span{}, api.ErrArg},
		{Span{2, 3}, Span{-1, 9}, Span{}, api.ErrArg},
		{Span{4, 1}, Span{1, -1}, Span{}, api.ErrArg},
		{Span{4, -1}, Span{1, 1}, Span{}, api.ErrArg},
		{Span{}, Span{1, 1 << 62}, Span{}, api.ErrArg},
		{Span{1, 1 << 62}, Span{2, 1}, Span{}, api.ErrArg},
		{Span{}, Span{math.MaxInt, 1}, Span{}, api.ErrArg},
		{Span{math.MaxInt, 1}, Span{}, Span{}, api.ErrArg},
	} {
		checkBetween(t, x.a, x.b, x.want, x.err)
	}
}

// P5.3
func TestBetweenOfEveryTwo(t *testing.T) {
	all := spans()
	for _, a := range all {
		for _, b := range all {
			if !isValid(a) || !isValid(b) {
				checkBetween(t, a, b, Span{}, api.ErrArg)
				continue
			}
			size := new(big.Int).Sub(sum(b), big.NewInt(int64(a.At)))
			if size.Sign() < 0 {
				checkBetween(t, a, b, Span{}, api.ErrRange)
			} else {
				checkBetween(t, a, b, Span{a.At, int(size.Int64())}, api.OK)
			}
		}
	}
}

// The chapter's examples.
func TestExamples(t *testing.T) {
	checkTake(t, Of(5), 2, Span{0, 2}, Span{2, 3}, api.OK)
	checkBetween(t, Span{2, 3}, Span{7, 1}, Span{2, 6}, api.OK)
}
