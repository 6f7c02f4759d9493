package sums

import (
	"hash/adler32"
	"hash/crc32"
	"math"
	"math/big"
	"strings"
	"testing"
)

// texts are byte strings of many lengths: every byte alone, runs of the least
// and of the greatest byte, what is no UTF-8, and sums at which a half becomes
// 65520, 0 or 1.
func texts() []string {
	l := []string{
		"", "a", "ab", "abc", "123456789", "Wikipedia", "é€😀", "\xc3", "\xff\xfe\x80\x00", "\x00\x00\x00\x00",
		"message digest", "abcdefghijklmnopqrstuvwxyz",
	}
	for c := range 256 {
		l = append(l, string([]byte{byte(c)}), string([]byte{0, byte(c)}), string([]byte{byte(c), 0xff}))
	}
	for _, n := range []int{3, 4, 5, 7, 8, 9, 255, 256, 257, 258, 5551, 5552, 5553, 5554, 65520, 65521, 65522, 1 << 17} {
		l = append(l, strings.Repeat("\x00", n), strings.Repeat("\x01", n), strings.Repeat("\xff", n), mixed(n))
	}
	full := strings.Repeat("\xff", 256)
	return append(l, full+"\xef", full+"\xf0", full+"\xf1", full+"\xf0\x01", full+"\xef\x00\x01")
}

// mixed is n bytes, unlike one another.
func mixed(n int) string {
	b := make([]byte, n)
	for i := range b {
		b[i] = byte(i*167 + i>>8*13 + 5)
	}
	return string(b)
}

// shortTexts are those that are short enough to be cut at every place.
func shortTexts() []string {
	var l []string
	for _, s := range texts() {
		if len(s) <= 300 {
			l = append(l, s)
		}
	}
	return l
}

func wantCrc(s string) uint32 { return crc32.ChecksumIEEE([]byte(s)) }

func wantAdler(s string) uint32 { return adler32.Checksum([]byte(s)) }

// bitwise is the CRC-32 as the chapter defines it, bit by bit.
func bitwise(s string) uint32 {
	bits := make([]bool, 32) // the lowest one first
	for i := range bits {
		bits[i] = true
	}
	for i := range len(s) {
		for k := range 8 {
			bits[k] = bits[k] != (s[i]>>k&1 == 1)
		}
		for range 8 {
			out := bits[0]
			bits = append(bits[1:], false)
			for k := range 32 {
				bits[k] = bits[k] != (out && uint32(0xedb88320)>>k&1 == 1)
			}
		}
	}
	var n uint32
	for k, bit := range bits {
		if !bit {
			n |= 1 << k
		}
	}
	return n
}

// summed is the Adler-32 as the chapter defines it, by exact sums.
func summed(s string) uint32 {
	a, b := big.NewInt(1), new(big.Int)
	for i := range len(s) {
		a.Add(a, big.NewInt(int64(s[i])))
		b.Add(b, a)
	}
	m := big.NewInt(65521)
	return uint32(b.Mod(b, m).Uint64()*65536 + a.Mod(a, m).Uint64())
}

func checkCrc(t *testing.T, s string, want uint32) {
	t.Helper()
	if n := Crc32(s); n != want {
		t.Errorf("Crc32(%.20q), %d bytes = %08x; want %08x", s, len(s), n, want)
	}
	c := New()
	c.Add(s)
	checkSum(t, c, want)
}

func checkSum(t *testing.T, c *Crc, want uint32) {
	t.Helper()
	if n := c.Sum(); n != want {
		t.Errorf("Sum() = %08x; want %08x", n, want)
	}
}

func checkAdler(t *testing.T, s string, want uint32) {
	t.Helper()
	if n := Adler32(s); n != want {
		t.Errorf("Adler32(%.20q), %d bytes = %08x; want %08x", s, len(s), n, want)
	}
}

func checkJoin(t *testing.T, a, b uint32, n int, want uint32) {
	t.Helper()
	if got := Join(a, b, n); got != want {
		t.Errorf("Join(%08x, %08x, %d) = %08x; want %08x", a, b, n, got, want)
	}
}

// P4.1
func TestCrcInRows(t *testing.T) {
	for s, want := range map[string]uint32{
		"": 0, "a": 0xe8b7be43, "abc": 0x352441c2, "123456789": 0xcbf43926,
		"\x00": 0xd202ef8d, "\xff": 0xff000000, "\x00\x00\x00\x00": 0x2144df1c, "\xff\xff\xff\xff": 0xffffffff,
		"The quick brown fox jumps over the lazy dog": 0x414fa339,
	} {
		checkCrc(t, s, want)
	}
}

// P4.1
func TestCrcOfTexts(t *testing.T) {
	for _, s := range texts() {
		checkCrc(t, s, wantCrc(s))
		if len(s) <= 300 {
			checkCrc(t, s, bitwise(s))
		}
	}
}

// P4.1: at any place where the bytes are divided, with a sum asked between.
func TestAddInPieces(t *testing.T) {
	for _, s := range shortTexts() {
		for i := range len(s) + 1 {
			c := New()
			c.Add(s[:i])
			checkSum(t, c, wantCrc(s[:i]))
			c.Add("")
			checkSum(t, c, wantCrc(s[:i]))
			c.Add(s[i:])
			checkSum(t, c, wantCrc(s))
		}
	}
}

// P4.1: byte by byte; every sum on the way stands, and none is changed by asking
// for it.
func TestAddByteByByte(t *testing.T) {
	s := mixed(2000)
	c := New()
	checkSum(t, c, 0)
	for i := range len(s) {
		c.Add(s[i : i+1])
		checkSum(t, c, wantCrc(s[:i+1]))
		checkSum(t, c, wantCrc(s[:i+1]))
	}
}

// P4.1: a new checksum is one of no bytes, whatever was made before it, and
// checksums do not influence each other (P2), nor does a copy its origin.
func TestCrcsAreApart(t *testing.T) {
	first := New()
	first.Add("1234")
	second := New()
	checkSum(t, second, 0)
	second.Add("a")
	copied := *first
	copied.Add("\xff")
	first.Add("56789")
	second.Add("bc")
	checkSum(t, first, 0xcbf43926)
	checkSum(t, second, 0x352441c2)
	checkSum(t, &copied, wantCrc("1234\xff"))
}

// P4.1
func TestNilCrc(t *testing.T) {
	var c *Crc
	checkSum(t, c, 0)
	for _, s := range []string{"", "a", strings.Repeat("\xff", 1000)} {
		c.Add(s)
		checkSum(t, c, 0)
	}
	if New() == nil {
		t.Error("New() = nil")
	}
}

// Ways: the effects are kept in an array, one for each byte.
func TestEffects(t *testing.T) {
	var all [256]uint32 = New().effects
	for b, effect := range all {
		if want := crc32.IEEETable[b]; effect != want {
			t.Errorf("the effect of %02x is %08x; want %08x", b, effect, want)
		}
	}
}

// P4.2
func TestAdlerInRows(t *testing.T) {
	full := strings.Repeat("\xff", 256)
	for s, want := range map[string]uint32{
		"": 1, "a": 0x00620062, "abc": 0x024d0127, "Wikipedia": 0x11e60398, "123456789": 0x091e01de,
		"\x00": 0x00010001, "\xff": 0x01000100, "\x00\x00": 0x00020001,
		// The high half is 2048 after the run; the low half goes up to 65520, and
		// round to 0 and 1.
		full: 0x0800ff01, full + "\xef": 0x07fffff0, full + "\xf0": 0x08000000, full + "\xf1": 0x08010001,
		// The high half is 65520, 0 and 1 after as many zeros.
		strings.Repeat("\x00", 65520): 0xfff00001, strings.Repeat("\x00", 65521): 0x00000001, strings.Repeat("\x00", 65522): 0x00010001,
	} {
		checkAdler(t, s, want)
	}
}

// P4.2
func TestAdlerOfTexts(t *testing.T) {
	for _, s := range texts() {
		checkAdler(t, s, wantAdler(s))
		checkAdler(t, s, summed(s))
	}
}

// P4.2: a great string, on which sums that are never reduced would wrap round.
func TestSumsOfMuch(t *testing.T) {
	for _, s := range []string{strings.Repeat("\xff", 1<<22+7), mixed(1<<22 + 7)} {
		checkAdler(t, s, wantAdler(s))
		checkCrc(t, s, wantCrc(s))
	}
}

// P4.2: at any place where the bytes are divided.
func TestJoinOfPieces(t *testing.T) {
	for _, s := range shortTexts() {
		for i := range len(s) + 1 {
			checkJoin(t, wantAdler(s[:i]), wantAdler(s[i:]), len(s)-i, wantAdler(s))
		}
	}
}

// P4.2: each text behind each of some, also longer ones.
func TestJoinOfTexts(t *testing.T) {
	full := strings.Repeat("\xff", 256)
	firsts := []string{"", "\x00", "a", "\xff", "Wiki", full + "\xef", full + "\xf0", full + "\xf1", strings.Repeat("\x00", 65520), mixed(70000)}
	for _, first := range firsts {
		for _, second := range texts() {
			checkJoin(t, wantAdler(first), wantAdler(second), len(second), wantAdler(first+second))
		}
	}
}

// exactJoin is what Join owes, by exact numbers.
func exactJoin(a, b uint32, n int) uint32 {
	m := big.NewInt(65521)
	low := new(big.Int).SetInt64(int64(a%65536) + int64(b%65536) - 1)
	high := new(big.Int).Mul(big.NewInt(int64(n)), big.NewInt(int64(a%65536)-1))
	high.Add(high, big.NewInt(int64(a/65536)+int64(b/65536)))
	return uint32(high.Mod(high, m).Uint64()*65536 + low.Mod(low, m).Uint64())
}

// P4.2: lengths that no string in memory has, and halves at their edges.
func TestJoinOfGreatLengths(t *testing.T) {
	halves := []uint32{0, 1, 2, 255, 256, 32767, 32768, 65519, 65520}
	lengths := []int{
		0, 1, 2, 65519, 65520, 65521, 65522, 65535, 65536, 65537, 2 * 65521, 65521 * 65521,
		math.MaxInt32, 1 << 31, 1<<32 - 1, 1 << 32, 1<<32 + 1, 1 << 48, math.MaxInt - 65521, math.MaxInt - 1, math.MaxInt,
	}
	for _, n := range lengths {
		for _, low := range halves {
			for _, high := range halves {
				for _, other := range halves {
					a, b := high<<16|low, other<<16|65520-other
					checkJoin(t, a, b, n, exactJoin(a, b, n))
					checkJoin(t, b, a, n, exactJoin(b, a, n))
				}
			}
		}
	}
}

// P4.2: as many zeros as an int can count change the low half not at all, and
// add it to the high half as many times.
func TestJoinOfZeros(t *testing.T) {
	for _, n := range []int{0, 1, 65520, 65521, 1 << 40, math.MaxInt} {
		zeros := uint32(n%65521)<<16 | 1
		checkJoin(t, 1, zeros, n, zeros)
		checkJoin(t, 0, zeros, n, 0)
		checkJoin(t, 0x00620062, zeros, n, uint32((98+n%65521*98)%65521)<<16|98)
	}
}

// P4.2: it makes no difference which two of three are joined first.
func TestJoinOfThree(t *testing.T) {
	l := []string{"", "a", "Wiki", "\xff\xff", strings.Repeat("\xff", 256) + "\xf0", mixed(1000)}
	for _, x := range l {
		for _, y := range l {
			for _, z := range l {
				a, b, c := Adler32(x), Adler32(y), Adler32(z)
				want := wantAdler(x + y + z)
				checkJoin(t, Join(a, b, len(y)), c, len(z), want)
				checkJoin(t, a, Join(b, c, len(z)), len(y)+len(z), want)
			}
		}
	}
}

// P4.2
func TestJoinOfNegativeLengths(t *testing.T) {
	for _, n := range []int{-1, -2, -65520, -65521, -65522, -(1 << 32), math.MinInt32, math.MinInt + 1, math.MinInt} {
		for _, a := range []uint32{0, 1, 0x00620062, 0xfff0fff0, 0xfff1fff1, math.MaxUint32} {
			for _, b := range []uint32{0, 1, 0x00620062, 0xfff0fff0, 0xfff1fff1, math.MaxUint32} {
				checkJoin(t, a, b, n, 0)
			}
		}
	}
}

// P4.2: any one of the four halves may be too great, however little.
func TestJoinOfGreatHalves(t *testing.T) {
	for half := uint32(65521); half < 65536; half++ {
		for _, n := range []int{0, 1, 5, 65521, math.MaxInt} {
			for _, other := range []uint32{0, 1, 98, 65520} {
				for _, sum := range []uint32{0, 1, 0x00620062, 0xfff0fff0} {
					checkJoin(t, half<<16|other, sum, n, 0)
					checkJoin(t, other<<16|half, sum, n, 0)
					checkJoin(t, sum, half<<16|other, n, 0)
					checkJoin(t, sum, other<<16|half, n, 0)
				}
			}
			checkJoin(t, half<<16|half, half<<16|half, n, 0)
		}
	}
	// The greatest ones that are allowed.
	checkJoin(t, 0xfff0fff0, 0xfff0fff0, 1, exactJoin(0xfff0fff0, 0xfff0fff0, 1))
	checkJoin(t, 0xfff00001, 0x00000001, 0, 0xfff00001)
}

// The chapter's examples.
func TestExamples(t *testing.T) {
	checkCrc(t, "123456789", 0xcbf43926)
	checkAdler(t, "Wikipedia", 0x11e60398)
}
