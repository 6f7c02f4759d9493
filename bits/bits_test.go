package bits

import (
	"fmt"
	"math"
	"slices"
	"strconv"
	"testing"

	"calliper/api"
)

const most = math.MaxUint64

// totals are the totals that widths may fit, as the chapter lists them.
func totals() []int { return []int{8, 16, 24, 32, 64} }

// otherTotals are totals that no widths fit: those beside the others, and
// those that a narrower integer would take for them.
func otherTotals() []int {
	l := []int{0, 1, 2, 3, 4, 7, 9, 12, 15, 17, 23, 25, 31, 33, 40, 48, 56, 63, 65, 72, 128, 256 + 8, 1<<32 + 8, 1<<32 + 64}
	return append(l, math.MaxInt-1, math.MaxInt, -1, -8, -16, -64, math.MinInt32, math.MinInt+8, math.MinInt)
}

// someWidths are widths that fit a total: one field, two fields split at every
// place, fields of one bit, and fields that are unlike one another.
func someWidths(total int) [][]int {
	l := [][]int{{total}, slices.Repeat([]int{1}, total), slices.Repeat([]int{4}, total/4)}
	for width := 1; width < total; width++ {
		l = append(l, []int{width, total - width})
	}
	var growing []int
	left := total
	for width := 1; left > 0; width++ {
		growing = append(growing, min(width, left))
		left -= min(width, left)
	}
	return append(l, growing)
}

// wrongWidths are widths that do not fit the total.
func wrongWidths(total int) [][]int {
	return [][]int{
		nil, {}, {0}, {total - 1}, {total + 1}, {-total}, {1}, {64, 64},
		{0, total}, {total, 0}, {1, 0, total - 1}, {-1, total + 1}, {total + 1, -1}, {total, 1, -1}, {total, -1, 1},
		{1, total}, {total, 1}, {1, total - 2}, {1, total - 1, 1}, {total, total}, {65, total - 65}, {total - 65, 65},
		slices.Repeat([]int{1}, total-1), slices.Repeat([]int{1}, total+1), slices.Repeat([]int{1}, 1000),
		// Sums that wrap round to the total.
		{math.MaxInt, 1, math.MaxInt, 1, total}, {math.MaxInt, math.MaxInt, total + 2}, {math.MinInt, math.MinInt, total},
		{1, math.MaxInt, math.MaxInt, total + 1}, {1 << 62, 1 << 62, 1 << 62, 1 << 62, total}, {1<<32 + total}, {total, 1 << 32},
		{math.MaxInt}, {math.MinInt}, {total, math.MinInt, math.MinInt},
	}
}

// digits is n as bits, the most significant one first.
func digits(n uint64, total int) string { return fmt.Sprintf("%0*b", total, n) }

// cut is the parts of n by the text of its bits.
func cut(n uint64, total int, widths []int) []uint64 {
	var parts []uint64
	s := digits(n, total)
	for _, width := range widths {
		part, err := strconv.ParseUint(s[:width], 2, 64)
		if err != nil {
			panic(err)
		}
		parts = append(parts, part)
		s = s[width:]
	}
	return parts
}

func greatest(total int) uint64 { return most >> (64 - total) }

// numbers are some that fit into total bits: every bit of them alone, and
// every bit missing.
func numbers(total int) []uint64 {
	l := []uint64{0, greatest(total), 0x0123456789abcdef & greatest(total), 0xfedcba9876543210 & greatest(total), greatest(total) / 3}
	for i := range total {
		l = append(l, 1<<i, greatest(total)&^(1<<i))
	}
	return l
}

func checkLay(t *testing.T, total int, widths []int, want []Field, err api.Errno) {
	t.Helper()
	if l, e := Lay(total, widths); !slices.Equal(l, want) || e != err {
		t.Errorf("Lay(%d, %v) = %v, %v; want %v, %v", total, widths, l, e, want, err)
	}
}

func checkGet(t *testing.T, f Field, n, want uint64) {
	t.Helper()
	if part := f.Get(n); part != want {
		t.Errorf("%v.Get(%#x) = %#x; want %#x", f, n, part, want)
	}
}

func checkSplit(t *testing.T, n uint64, total int, widths []int, want []uint64, err api.Errno) {
	t.Helper()
	if l, e := Split(n, total, widths); !slices.Equal(l, want) || e != err {
		t.Errorf("Split(%#x, %d, %v) = %#x, %v; want %#x, %v", n, total, widths, l, e, want, err)
	}
}

func checkJoin(t *testing.T, parts []uint64, total int, widths []int, want uint64, err api.Errno) {
	t.Helper()
	if n, e := Join(parts, total, widths); n != want || e != err {
		t.Errorf("Join(%#x, %d, %v) = %#x, %v; want %#x, %v", parts, total, widths, n, e, want, err)
	}
}

// P3.1
func TestLayInRows(t *testing.T) {
	for _, x := range []struct {
		total  int
		widths []int
		want   []Field
	}{
		{8, []int{8}, []Field{{0, 8}}},
		{8, []int{3, 5}, []Field{{5, 3}, {0, 5}}},
		{8, []int{1, 1, 6}, []Field{{7, 1}, {6, 1}, {0, 6}}},
		{16, []int{1, 7, 8}, []Field{{15, 1}, {8, 7}, {0, 8}}},
		{24, []int{4, 12, 8}, []Field{{20, 4}, {8, 12}, {0, 8}}},
		{32, []int{31, 1}, []Field{{1, 31}, {0, 1}}},
		{64, []int{64}, []Field{{0, 64}}},
		{64, []int{1, 63}, []Field{{63, 1}, {0, 63}}},
		{64, []int{63, 1}, []Field{{1, 63}, {0, 1}}},
	} {
		checkLay(t, x.total, x.widths, x.want, api.OK)
	}
}

// P3.1: the fields follow each other from the total down to 0.
func TestLayOfWhatFits(t *testing.T) {
	for _, total := range totals() {
		for _, widths := range someWidths(total) {
			fields, err := Lay(total, widths)
			if err != api.OK || len(fields) != len(widths) {
				t.Errorf("Lay(%d, %v) = %v, %v", total, widths, fields, err)
				continue
			}
			end := total
			for i, f := range fields {
				if f.Width != widths[i] || f.Behind+f.Width != end {
					t.Errorf("Lay(%d, %v): field %d is %v", total, widths, i, f)
				}
				end = f.Behind
			}
			if end != 0 {
				t.Errorf("Lay(%d, %v) ends at %d", total, widths, end)
			}
		}
	}
}

// P3.1
func TestLayOfWhatDoesNotFit(t *testing.T) {
	for _, total := range totals() {
		for _, widths := range wrongWidths(total) {
			checkLay(t, total, widths, nil, api.ErrArg)
		}
		for _, other := range totals() {
			if other != total {
				checkLay(t, total, []int{other}, nil, api.ErrArg)
			}
		}
	}
	for _, total := range otherTotals() {
		for _, widths := range [][]int{nil, {total}, {0}, {8}, {64}, {1, total - 1}, {total / 2, total - total/2}} {
			checkLay(t, total, widths, nil, api.ErrArg)
		}
		if total > 0 && total <= 256 {
			checkLay(t, total, slices.Repeat([]int{1}, total), nil, api.ErrArg)
		}
	}
}

// P3.1
func TestGetInRows(t *testing.T) {
	for _, x := range []struct {
		f       Field
		n, want uint64
	}{
		{Field{5, 3}, 0xa5, 5}, {Field{0, 5}, 0xa5, 5}, {Field{0, 8}, 0x1ff, 0xff}, {Field{4, 4}, 0xfff, 0xf},
		{Field{0, 64}, most, most}, {Field{0, 63}, most, most >> 1}, {Field{63, 1}, 1 << 63, 1}, {Field{0, 1}, 2, 0},
		// A field that reaches above the number has zeros there.
		{Field{60, 64}, 1 << 63, 8}, {Field{63, 64}, most, 1}, {Field{1, 64}, most, most >> 1}, {Field{63, 2}, most, 1},
	} {
		checkGet(t, x.f, x.n, x.want)
	}
}

// P3.1: at every place and of every width, by the text of the bits.
func TestGetOfEveryField(t *testing.T) {
	for _, n := range numbers(64) {
		s := digits(n, 64)
		for behind := range 64 {
			for width := 1; width <= 64; width++ {
				want, err := strconv.ParseUint("0"+s[max(0, 64-behind-width):64-behind], 2, 64)
				if err != nil {
					t.Fatal(err)
				}
				checkGet(t, Field{behind, width}, n, want)
			}
		}
	}
}

// P3.1
func TestGetOfOtherFields(t *testing.T) {
	far := []int{math.MinInt, math.MinInt + 1, math.MinInt32, -(1 << 32), -256, -64, -63, -1, 65, 66, 128, 256, 257, 1 << 32, 1<<32 + 1, math.MaxInt - 1, math.MaxInt}
	for _, n := range []uint64{0, 1, 0xa5, 1 << 63, most} {
		for _, outside := range far {
			for _, inside := range []int{0, 1, 8, 63, 64} {
				checkGet(t, Field{outside, inside}, n, 0)
				checkGet(t, Field{inside, outside}, n, 0)
			}
			checkGet(t, Field{outside, outside}, n, 0)
			checkGet(t, Field{outside, -outside}, n, 0)
		}
		for k := range 65 {
			checkGet(t, Field{64, k}, n, 0)
			checkGet(t, Field{k, 0}, n, 0)
		}
	}
	checkGet(t, Field{}, most, 0)
}

// P3.2
func TestSplitInRows(t *testing.T) {
	for _, x := range []struct {
		n      uint64
		total  int
		widths []int
		want   []uint64
	}{
		{0xa5, 8, []int{3, 5}, []uint64{5, 5}},
		{0xa5, 8, []int{1, 1, 6}, []uint64{1, 0, 37}},
		{0, 8, []int{8}, []uint64{0}},
		{0x1234, 16, []int{4, 4, 8}, []uint64{1, 2, 0x34}},
		{0xabcdef, 24, []int{4, 12, 8}, []uint64{10, 3021, 239}},
		{0x80000001, 32, []int{1, 30, 1}, []uint64{1, 0, 1}},
		{most, 64, []int{64}, []uint64{most}},
		{1 << 63, 64, []int{1, 63}, []uint64{1, 0}},
	} {
		checkSplit(t, x.n, x.total, x.widths, x.want, api.OK)
		checkJoin(t, x.want, x.total, x.widths, x.n, api.OK)
	}
}

// P3.2
func TestSplitAndJoinOfWhatFits(t *testing.T) {
	for _, total := range totals() {
		for _, widths := range someWidths(total) {
			for _, n := range numbers(total) {
				parts := cut(n, total, widths)
				checkSplit(t, n, total, widths, parts, api.OK)
				checkJoin(t, parts, total, widths, n, api.OK)
			}
		}
	}
}

// P3.2: every number of 8 bits in all widths that fit 8; each bit of how says
// whether a field ends there.
func TestSplitAndJoinOfEveryByte(t *testing.T) {
	for how := range 1 << 7 {
		widths := []int{1}
		for i := range 7 {
			if how>>i&1 == 1 {
				widths = append(widths, 1)
			} else {
				widths[len(widths)-1]++
			}
		}
		for n := range uint64(256) {
			parts := cut(n, 8, widths)
			checkSplit(t, n, 8, widths, parts, api.OK)
			checkJoin(t, parts, 8, widths, n, api.OK)
		}
	}
}

// P3.2: a bit at position total or above.
func TestSplitOfGreatNumbers(t *testing.T) {
	for _, total := range totals() {
		for _, widths := range someWidths(total) {
			for bit := total; bit < 64; bit++ {
				checkSplit(t, 1<<bit, total, widths, nil, api.ErrNum)
				checkSplit(t, 1<<bit|1, total, widths, nil, api.ErrNum)
			}
			if total < 64 {
				checkSplit(t, most, total, widths, nil, api.ErrNum)
			}
		}
	}
}

// P3.2: widths that do not fit come before a number that does not.
func TestSplitByWrongWidths(t *testing.T) {
	for _, n := range []uint64{0, 1, 255, 256, 1 << 63, most} {
		for _, total := range totals() {
			for _, widths := range wrongWidths(total) {
				checkSplit(t, n, total, widths, nil, api.ErrArg)
			}
		}
		for _, total := range otherTotals() {
			for _, widths := range [][]int{nil, {total}, {8}, {64}, {1, total - 1}} {
				checkSplit(t, n, total, widths, nil, api.ErrArg)
			}
		}
	}
}

// P3.2: a part that does not fit, whichever it is.
func TestJoinOfGreatParts(t *testing.T) {
	for _, total := range totals() {
		for _, widths := range someWidths(total) {
			for i, width := range widths {
				if width == 64 {
					continue
				}
				for _, part := range []uint64{1 << width, 1<<width + 1, 1 << 63, most - 1, most} {
					parts := make([]uint64, len(widths))
					parts[i] = part
					checkJoin(t, parts, total, widths, 0, api.ErrNum)
					// Parts that fit stand beside it.
					for k := range parts {
						if k != i {
							parts[k] = greatest(widths[k])
						}
					}
					checkJoin(t, parts, total, widths, 0, api.ErrNum)
				}
			}
		}
	}
}

// P3.2: the number of parts comes before their sizes.
func TestJoinOfOtherCounts(t *testing.T) {
	for _, total := range totals() {
		for _, widths := range someWidths(total) {
			for _, count := range []int{0, 1, len(widths) - 1, len(widths) + 1, 2 * len(widths), 1000} {
				if count == len(widths) {
					continue
				}
				for _, part := range []uint64{0, 1, most} {
					checkJoin(t, slices.Repeat([]uint64{part}, count), total, widths, 0, api.ErrArg)
				}
			}
		}
	}
	checkJoin(t, nil, 8, []int{8}, 0, api.ErrArg)
}

// P3.2: widths that do not fit are an error even where the parts are as many,
// and come before a part that is too great.
func TestJoinByWrongWidths(t *testing.T) {
	for _, part := range []uint64{0, 1, most} {
		for _, total := range totals() {
			for _, widths := range wrongWidths(total) {
				checkJoin(t, slices.Repeat([]uint64{part}, len(widths)), total, widths, 0, api.ErrArg)
			}
		}
		for _, total := range otherTotals() {
			for _, widths := range [][]int{nil, {total}, {8}, {64}, {1, total - 1}} {
				checkJoin(t, slices.Repeat([]uint64{part}, len(widths)), total, widths, 0, api.ErrArg)
			}
		}
	}
}

// Rule 4: arguments are left as they are, and so is what is behind them;
// results are new memory.
func TestMemory(t *testing.T) {
	widths := []int{3, 5, 77, 78}
	parts := []uint64{5, 5, 79, 80}
	fields, err := Lay(8, widths[:2])
	split, e := Split(0xa5, 8, widths[:2])
	again, f := Split(0xa5, 8, widths[:2])
	if n, g := Join(parts[:2], 8, widths[:2]); n != 0xa5 || err != api.OK || e != api.OK || f != api.OK || g != api.OK {
		t.Fatalf("Join = %d; %v, %v, %v, %v", n, err, e, f, g)
	}
	if !slices.Equal(widths, []int{3, 5, 77, 78}) || !slices.Equal(parts, []uint64{5, 5, 79, 80}) {
		t.Errorf("the arguments are now %v and %v", widths, parts)
	}
	split[0], widths[0], parts[0] = 6, 4, 6
	if again[0] != 5 || fields[0] != (Field{5, 3}) {
		t.Errorf("results share memory: %v, %v", again, fields)
	}
}

// The chapter's example.
func TestExample(t *testing.T) {
	checkSplit(t, 0xa5, 8, []int{3, 5}, []uint64{5, 5}, api.OK)
}
