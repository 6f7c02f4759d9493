package ends

import (
	"bytes"
	"encoding/binary"
	"math"
	"slices"
	"strings"
	"testing"

	"calliper/api"
)

const most = math.MaxUint64

// sizes are the valid sizes, as the chapter lists them.
func sizes() []int { return []int{1, 2, 3, 4, 8} }

// otherSizes are sizes that are not valid: those beside the valid ones, and
// those that a narrower integer or a multiplication by 8 would take for them.
func otherSizes() []int {
	l := []int{0, 5, 6, 7, 9, 10, 16, 24, 32, 64, 1<<32 + 1, 1<<32 + 8, 1<<61 + 1, 1<<61 + 4, math.MaxInt - 1, math.MaxInt}
	return append(l, -1, -2, -3, -4, -8, math.MinInt32, math.MinInt+1, math.MinInt+8, math.MinInt)
}

func greatest(size int) uint64 { return most >> (64 - 8*size) }

// numbers are some that fit into size bytes: every byte of them is told from
// the others, or stands alone.
func numbers(size int) []uint64 {
	l := []uint64{0, 1, 0x7f, 0x80, 0xff, greatest(size) / 3, greatest(size) - 1, greatest(size)}
	for i := range size {
		l = append(l, 0x0123456789abcdef&greatest(size), 0x01<<(8*i), 0x80<<(8*i), 0xff<<(8*i))
	}
	return l
}

// encoded is the encoding by the library's means.
func encoded(n uint64, size int, little bool) string {
	if little {
		return string(binary.LittleEndian.AppendUint64(nil, n)[:size])
	}
	return string(binary.BigEndian.AppendUint64(nil, n)[8-size:])
}

func checkPut(t *testing.T, n uint64, size int, little bool, want string, err api.Errno) {
	t.Helper()
	if s, e := Put(n, size, little); s != want || e != err {
		t.Errorf("Put(%d, %d, %t) = %x, %v; want %x, %v", n, size, little, s, e, want, err)
	}
}

func checkGet(t *testing.T, s string, at, size int, little bool, want uint64, err api.Errno) {
	t.Helper()
	if n, e := Get(s, at, size, little); n != want || e != err {
		t.Errorf("Get(%.20x, %d, %d, %t) = %d, %v; want %d, %v", s, at, size, little, n, e, want, err)
	}
}

// P2.1
func TestGood(t *testing.T) {
	for _, size := range sizes() {
		if !Good(size) {
			t.Errorf("Good(%d) = false", size)
		}
	}
	for _, size := range otherSizes() {
		if Good(size) {
			t.Errorf("Good(%d) = true", size)
		}
	}
	for size := -1000; size <= 1000; size++ {
		if Good(size) != slices.Contains(sizes(), size) {
			t.Errorf("Good(%d) = %t", size, Good(size))
		}
	}
}

// P2.1
func TestPutInRows(t *testing.T) {
	for _, x := range []struct {
		n           uint64
		size        int
		big, little string
	}{
		{0, 1, "\x00", "\x00"}, {0xff, 1, "\xff", "\xff"},
		{258, 2, "\x01\x02", "\x02\x01"}, {0xffff, 2, "\xff\xff", "\xff\xff"}, {1, 2, "\x00\x01", "\x01\x00"},
		{0x010203, 3, "\x01\x02\x03", "\x03\x02\x01"}, {0xff, 3, "\x00\x00\xff", "\xff\x00\x00"},
		{0x01020304, 4, "\x01\x02\x03\x04", "\x04\x03\x02\x01"}, {1 << 31, 4, "\x80\x00\x00\x00", "\x00\x00\x00\x80"},
		{0x0102030405060708, 8, "\x01\x02\x03\x04\x05\x06\x07\x08", "\x08\x07\x06\x05\x04\x03\x02\x01"},
		{1 << 63, 8, "\x80\x00\x00\x00\x00\x00\x00\x00", "\x00\x00\x00\x00\x00\x00\x00\x80"},
	} {
		checkPut(t, x.n, x.size, false, x.big, api.OK)
		checkPut(t, x.n, x.size, true, x.little, api.OK)
	}
}

// P2.1
func TestPutOfWhatFits(t *testing.T) {
	for _, size := range sizes() {
		for _, little := range []bool{false, true} {
			for _, n := range numbers(size) {
				checkPut(t, n, size, little, encoded(n, size, little), api.OK)
			}
		}
	}
}

// P2.1
func TestPutOfWhatDoesNotFit(t *testing.T) {
	for _, size := range []int{1, 2, 3, 4} {
		for _, little := range []bool{false, true} {
			for _, n := range []uint64{greatest(size) + 1, greatest(size) + 2, 1 << 32, 1 << 40, 1 << 63, most - 1, most} {
				checkPut(t, n, size, little, "", api.ErrNum)
			}
		}
	}
}

// P2.1: a size that is not valid comes before a number that does not fit.
func TestPutInOtherSizes(t *testing.T) {
	for _, size := range otherSizes() {
		for _, n := range []uint64{0, 1, 256, 1 << 32, most} {
			checkPut(t, n, size, false, "", api.ErrArg)
			checkPut(t, n, size, true, "", api.ErrArg)
		}
	}
}

// P2.1
func TestTurn(t *testing.T) {
	for s, want := range map[string]string{
		"": "", "a": "a", "ab": "ba", "abc": "cba", "aab": "baa", "\x00": "\x00", "\x00\x01": "\x01\x00",
		"\xff\x00\x80": "\x80\x00\xff",
		// Bytes are turned, not runes.
		"é": "\xa9\xc3", "a€": "\xac\x82\xe2a", "\xc3": "\xc3",
	} {
		if got := Turn(s); got != want {
			t.Errorf("Turn(%q) = %q; want %q", s, got, want)
		}
	}
	for _, n := range []int{7, 8, 9, 255, 256, 257, 1 << 16, 1<<20 + 1} {
		b := make([]byte, n)
		for i := range b {
			b[i] = byte(i*7 + i>>8)
		}
		s := string(b)
		slices.Reverse(b)
		if got := Turn(s); got != string(b) || Turn(got) != s {
			t.Errorf("Turn is wrong about %d bytes", n)
		}
	}
}

// P2.1, P2.2: the encoding in one order is that in the other, turned.
func TestTurnOfEncodings(t *testing.T) {
	for _, size := range sizes() {
		for _, n := range numbers(size) {
			s, _ := Put(n, size, false)
			checkPut(t, n, size, true, Turn(s), api.OK)
			checkGet(t, Turn(s), 0, size, true, n, api.OK)
		}
	}
}

// P2.2
func TestGetInRows(t *testing.T) {
	const s = "\x01\x02\x03\x04\x05\x06\x07\x08\xff"
	for _, x := range []struct {
		at, size    int
		big, little uint64
	}{
		{0, 1, 1, 1}, {4, 1, 5, 5}, {8, 1, 255, 255}, {0, 2, 258, 513}, {7, 2, 0x08ff, 0xff08},
		{1, 3, 0x020304, 0x040302}, {6, 3, 0x0708ff, 0xff0807}, {2, 4, 0x03040506, 0x06050403},
		{5, 4, 0x060708ff, 0xff080706}, {0, 8, 0x0102030405060708, 0x0807060504030201},
		{1, 8, 0x02030405060708ff, 0xff08070605040302},
	} {
		checkGet(t, s, x.at, x.size, false, x.big, api.OK)
		checkGet(t, s, x.at, x.size, true, x.little, api.OK)
	}
}

// P2.2: an encoding is read as its number, whatever stands beside it.
func TestGetOfEncodings(t *testing.T) {
	for _, size := range sizes() {
		for _, little := range []bool{false, true} {
			for _, n := range numbers(size) {
				s := encoded(n, size, little)
				checkGet(t, s, 0, size, little, n, api.OK)
				for _, beside := range []string{"\x00", "\xff", "\x80\x7f\x01"} {
					checkGet(t, beside+s+beside, len(beside), size, little, n, api.OK)
				}
			}
		}
	}
}

// P2.2
func TestGetOutsideOfBytes(t *testing.T) {
	for _, size := range sizes() {
		for _, little := range []bool{false, true} {
			for n := range 20 {
				s := strings.Repeat("\xff", n)
				for at := -20; at <= 20; at++ {
					if at >= 0 && at+size <= n {
						checkGet(t, s, at, size, little, greatest(size), api.OK)
					} else {
						checkGet(t, s, at, size, little, 0, api.ErrRange)
					}
				}
				// The last ones wrap round to a small end where size is added.
				for _, at := range []int{math.MinInt, math.MinInt + 1, math.MinInt + 8, math.MinInt32, math.MaxInt32, 1 << 32, math.MaxInt - 8, math.MaxInt - 1, math.MaxInt} {
					checkGet(t, s, at, size, little, 0, api.ErrRange)
				}
			}
		}
	}
}

// P2.2: a size that is not valid comes before a place outside.
func TestGetInOtherSizes(t *testing.T) {
	for _, s := range []string{"", "a", strings.Repeat("a", 100)} {
		for _, size := range otherSizes() {
			for _, at := range []int{0, 1, 50, 100, -1, 101, math.MinInt, math.MaxInt} {
				checkGet(t, s, at, size, false, 0, api.ErrArg)
				checkGet(t, s, at, size, true, 0, api.ErrArg)
			}
		}
	}
}

// Strings are byte strings: what is no UTF-8 is read as it is.
func TestGetOfEveryByte(t *testing.T) {
	for c := range 256 {
		s := string(bytes.Repeat([]byte{byte(c)}, 8))
		for _, size := range sizes() {
			checkGet(t, s, 8-size, size, false, uint64(c)*(greatest(size)/255), api.OK)
			checkGet(t, s, 8-size, size, true, uint64(c)*(greatest(size)/255), api.OK)
		}
	}
}

// The chapter's examples.
func TestExamples(t *testing.T) {
	checkPut(t, 258, 2, false, "\x01\x02", api.OK)
	checkPut(t, 258, 2, true, "\x02\x01", api.OK)
	checkPut(t, 256, 1, false, "", api.ErrNum)
}
