package parse

import (
	"math"
	"slices"
	"strings"
	"testing"
)

// P7.2
func TestKeyword(t *testing.T) {
	for _, s := range strings.Fields(allIntegers + " " + allOthers) {
		if !Keyword(s) {
			t.Errorf("Keyword(%q) = false", s)
		}
		for _, other := range []string{s + "s", s[1:], s[:len(s)-1], strings.ToUpper(s), " " + s, s + "\x00"} {
			if Keyword(other) {
				t.Errorf("Keyword(%q) = true", other)
			}
		}
	}
	for _, s := range []string{"", "n", "u8be", "u8le", "u16", "u40be", "int", "default", "if", "7", "==", "End", "name", "structs", "crc", "adler", strings.Repeat("struct", 1000)} {
		if Keyword(s) {
			t.Errorf("Keyword(%.40q) = true", s)
		}
	}
}

// P7.2
func TestInteger(t *testing.T) {
	type answer struct {
		size       int
		little, ok bool
	}
	check := func(s string, want answer) {
		t.Helper()
		size, little, ok := Integer(s)
		if (answer{size, little, ok}) != want {
			t.Errorf("Integer(%.40q) = %d, %t, %t", s, size, little, ok)
		}
	}
	check("u8", answer{1, false, true})
	for size, bits := range map[int]string{2: "16", 3: "24", 4: "32", 8: "64"} {
		check("u"+bits+"be", answer{size, false, true})
		check("u"+bits+"le", answer{size, true, true})
		for _, s := range []string{"u" + bits, bits, "U" + bits + "be", "u" + bits + "bel", "u" + bits + "BE", "i" + bits + "le"} {
			check(s, answer{})
		}
	}
	for _, s := range strings.Fields(allOthers + " u8be u8le u u0 u40be u48le u56be u128be n") {
		check(s, answer{})
	}
	check("", answer{})
	check("u8 ", answer{})
	check("u8\x00", answer{})
}

// P7.2
func TestWord(t *testing.T) {
	words := map[int][]string{1: {"u8", "u8"}, 2: {"u16be", "u16le"}, 3: {"u24be", "u24le"}, 4: {"u32be", "u32le"}, 8: {"u64be", "u64le"}}
	sizes := []int{math.MinInt, math.MaxInt, math.MinInt + 1, math.MaxInt - 1, 1 << 32, 1<<32 + 1, 1<<62 + 8, -1 << 32}
	for size := -300; size <= 300; size++ {
		sizes = append(sizes, size)
	}
	for _, size := range sizes {
		want := words[size]
		if want == nil {
			want = []string{"", ""}
		}
		if got := []string{Word(size, false), Word(size, true)}; !slices.Equal(got, want) {
			t.Errorf("Word(%d, ..) = %q; want %q", size, got, want)
		}
	}
}

// P7.2
func TestLevel(t *testing.T) {
	for i, some := range levels {
		for _, op := range strings.Fields(some) {
			if Level(op) != i+1 {
				t.Errorf("Level(%q) = %d; want %d", op, Level(op), i+1)
			}
			for _, other := range []string{op + " ", " " + op, op + op + op, "(" + op} {
				if Level(other) != 0 {
					t.Errorf("Level(%q) = %d", other, Level(other))
				}
			}
		}
	}
	for _, s := range []string{"", "!", "=", "..", ":", ",", "(", "[", "^", "~", "**", "===", "&&&", "<>", "=>", "n", "sizeof", "1"} {
		if Level(s) != 0 {
			t.Errorf("Level(%q) = %d", s, Level(s))
		}
	}
}
