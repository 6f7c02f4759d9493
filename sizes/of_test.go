package sizes

import (
	"fmt"
	"reflect"
	"strings"
	"testing"

	"calliper/api"
	"calliper/bounds"
	"calliper/parse"
)

func parsed(t *testing.T, s string) *parse.File {
	t.Helper()
	f, at, err := parse.Parse(s)
	if err != api.OK {
		t.Fatalf("Parse(%q): %v, %v", s, at, err)
	}
	return f
}

// checkTable checks the sizes of a description, written as `1 0..255 max | 1..max`: those
// of the types, and those of the structs. The word max stands for MaxSize.
func checkTable(t *testing.T, s, want string) {
	t.Helper()
	u, err := Of(parsed(t, s))
	if got := write(u.Types) + "| " + strings.TrimSpace(write(u.Structs)); err != api.OK || got != want {
		t.Errorf("%s\n got %s, %v\nwant %s", s, got, err, want)
	}
}

func write(list []bounds.Range) string {
	s := ""
	for _, r := range list {
		s += fmt.Sprint(r.Lo)
		if r.Hi != r.Lo {
			s += fmt.Sprint("..", r.Hi)
		}
		s += " "
	}
	return strings.ReplaceAll(s, fmt.Sprint(api.MaxSize), "max")
}

// P12.2
func TestInt(t *testing.T) {
	for word, n := range map[string]int{"u8": 1, "u16be": 2, "u16le": 2, "u24be": 3, "u24le": 3, "u32be": 4, "u32le": 4, "u64be": 8, "u64le": 8} {
		checkTable(t, "struct S { a: "+word+"; }", fmt.Sprintf("%d | %d", n, n))
		checkTable(t, "struct S { a: "+word+"; b: u8; }", fmt.Sprintf("%d 1 | %d", n, n+1))
		checkTable(t, "struct S { pack "+word+" { x: 1; y: "+fmt.Sprint(8*n-1)+"; } }", fmt.Sprintf("| %d", n))
	}
}

// P12.2: the types whose sizes are ranges of expressions.
func TestByExpression(t *testing.T) {
	const before = "struct S { n: u8; m: u64be; a: "
	for _, x := range []struct{ s, want string }{
		{"0", "0"}, {"1", "1"}, {"n", "0..255"}, {"n + 1", "1..256"}, {"n * 4 + 2", "2..1022"}, {"200 - n", "0..200"}, {"!n", "0..1"}, {"!(n + 1)", "0"},
		{"1099511627775", "1099511627775"}, {"1099511627776", "max"}, {"1099511627777", "max"}, {"18446744073709551615", "max"},
		{"m", "0..max"}, {"m + 7", "7..max"}, {"m + 1099511627775", "1099511627775..max"}, {"m + 1099511627776", "max"}, {"m + 1099511627777", "max"},
		{"m / 16777216", "0..1099511627775"}, {"m / 16777215", "0..max"}, {"n << 32", "0..1095216660480"}, {"n + 255 << 32", "1095216660480..max"},
		{"1 - 2", "0"}, {"n - 256", "0"}, {"1 / 0", "0"}, {"1 << 64", "0"}, {"m * 0 - 1", "0"}, {"18446744073709551615 + 1", "0"}, {"18446744073709551615 + n", "max"},
	} {
		for _, form := range []string{"bytes[%s]; }", "zero[%s]; }", "skip[%s]; }"} {
			r := bounds.Range{}
			s := before + fmt.Sprintf(form, x.s)
			u, err := Of(parsed(t, s))
			if err == api.OK {
				r = Add(bounds.Point(9), u.Types[2])
			}
			checkTable(t, s, "1 8 "+x.want+" | "+strings.TrimSpace(write([]bounds.Range{r})))
		}
		// What is in a window does not count.
		for _, in := range []struct{ s, want string }{{"u32be", "4"}, {"none", "0"}, {"tail", "0..max"}, {"bytes[n]", "0..255"}} {
			u, _ := Of(parsed(t, before+"window["+x.s+"] "+in.s+"; }"))
			if got := write(u.Types); got != "1 8 "+in.want+" "+x.want+" " {
				t.Errorf("window[%s] %s: %s; want %s", x.s, in.s, got, x.want)
			}
		}
	}
}

// P12.2: sums that are written out, the chapter's example among them.
func TestSums(t *testing.T) {
	checkTable(t, "struct S { }", "| 0")
	checkTable(t, "struct S { n: u8; b: bytes[n + 1]; }", "1 1..256 | 2..257")
	checkTable(t, "struct S { a: u8; b: u16le; c: u24be; d: u32be; e: u64le; }", "1 2 3 4 8 | 18")
	checkTable(t, "struct S { n: u8; m: u16be; a: bytes[n]; b: zero[m + 1]; c: skip[5]; d: none; }", "1 2 0..255 1..65536 5 0 | 9..65799")
	checkTable(t, "struct S { pack u24le { x: 4; y: 20; } a: u8; pack u16be { z: 16; } }", "1 | 6")
	checkTable(t, "struct S { a: tail; b: u8; }", "0..max 1 | 1..max")
	checkTable(t, "struct S { a: bytes[1099511627775]; b: u8; }", "1099511627775 1 | max")
	checkTable(t, "struct S { a: bytes[1099511627774]; b: u8; }", "1099511627774 1 | 1099511627775")
	checkTable(t, "struct S { a: bytes[1099511627776]; b: tail; c: u64be; }", "max 0..max 8 | max")
	checkTable(t, "struct S { a: u8; } struct T { } struct U { b: u16be; c: none; }", "1 2 0 | 1 0 2")
}

// P12.2: a name has the range of what it stands for.
func TestNameRanges(t *testing.T) {
	for word, bits := range map[string]int{"u8": 8, "u16be": 16, "u16le": 16, "u24be": 24, "u24le": 24, "u32be": 32, "u32le": 32} {
		most := uint64(1)<<bits - 1
		want := fmt.Sprintf("%d 0..%d | %d..%d", bits/8, most, bits/8, uint64(bits)/8+most)
		checkTable(t, "struct S { n: "+word+"; a: bytes[n]; }", want)
		checkTable(t, "struct S { n: "+word+" = sizeof(a); a: bytes[n]; }", want)
		checkTable(t, "struct S { n: "+word+" where n < 3; a: bytes[n]; }", want)
	}
	for bits := 1; bits < 64; bits++ {
		most := min(uint64(1)<<bits-1, api.MaxSize)
		s := fmt.Sprintf("struct S { pack u64be { n: %d; m: %d; } a: window[n] none; b: window[m * 0] none; }", bits, 64-bits)
		if u, err := Of(parsed(t, s)); err != api.OK || u.Types[1] != (bounds.Range{Lo: 0, Hi: most}) {
			t.Errorf("%s: %v, %v; want %d", s, u.Types, err, most)
		}
		s = fmt.Sprintf("struct S { pack u64be { m: %d; n: %d; } a: window[n >> %d] none; }", 64-bits, bits, bits-1)
		if u, err := Of(parsed(t, s)); err != api.OK || u.Types[1] != (bounds.Range{Lo: 0, Hi: 1}) {
			t.Errorf("%s: %v, %v; want 0 to 1", s, u.Types, err)
		}
	}
	checkTable(t, "struct S { pack u64be { n: 64; } a: bytes[n >> 32]; b: bytes[n >> 63]; }", "0..4294967295 0..1 | 8..4294967304")
	checkTable(t, "struct S { n: u64le; a: bytes[n >> 32]; b: bytes[n >> 63]; }", "8 0..4294967295 0..1 | 8..4294967304")
	checkTable(t, "struct T(p) { a: bytes[p >> 32]; b: bytes[p >> 63]; } struct S { }", "0..4294967295 0..1 | 0..4294967296 0")
	checkTable(t, "const K = 3; const L = 18446744073709551615; struct S { a: bytes[K]; b: bytes[L - 18446744073709551610]; c: bytes[L]; d: u8[L]; }", "3 5 max 1 65536 | max")
	checkTable(t, "struct S { a: bytes[K * 2]; } const K = 3;", "6 | 6")
}

// P12.2: of each struct the names are its own, and all of them that stand before.
func TestNameScopes(t *testing.T) {
	checkTable(t, "struct S { n: u8; a: bytes[n]; } struct T { n: u16be; a: bytes[n]; } struct U { pack u8 { n: 3; m: 5; } a: bytes[n]; }",
		"1 0..255 2 0..65535 0..7 | 1..256 2..65537 1..8")
	checkTable(t, "struct T(n) { a: bytes[n]; } struct U { n: u8; a: bytes[n]; } struct V(n) { a: bytes[n]; } struct S { }",
		"0..max 1 0..255 0..max | 0..max 1..256 0..max 0")
	checkTable(t, "struct T(p, q, r) { a: bytes[p]; b: zero[q + 1]; c: u8[r]; } struct S { }", "0..max 1..max 1 0..65536 | 1..max 0")
	checkTable(t, "struct S { a: u8; b: u16be; pack u8 { x: 2; y: 6; } c: bytes[a]; d: bytes[b]; e: bytes[x]; f: bytes[y]; g: u8; h: bytes[g + b + x]; }",
		"1 2 0..255 0..65535 0..3 0..63 1 0..65793 | 5..131654")
	checkTable(t, "struct S { a: u8; c: u32be = crc32(a..a); d: u32le = adler32(a..c); b: bytes[a]; }", "1 4 4 0..255 | 9..264")
	checkTable(t, "struct T { c: u8; } struct S { a: u8; c: u32be = crc32(a..a); } struct U { c: u16be; d: bytes[c]; }", "1 1 4 2 0..65535 | 1 5 2..65537")
	checkTable(t, "struct S { a: switch (1) { case 1: u16be; }; n: u8; b: u8[n]; }", "2 2 1 1 0..255 | 3..258")
}

// P12.2
func TestArrays(t *testing.T) {
	checkTable(t, "struct S { a: u8[0]; b: u16be[1]; c: u24be[5]; d: u64be[3]; }", "1 0 2 2 3 15 8 24 | 41")
	checkTable(t, "struct S { a: u8[65535]; b: u8[65536]; c: u8[65537]; d: u64be[18446744073709551615]; }", "1 65535 1 65536 1 65536 8 524288 | 720895")
	checkTable(t, "struct S { n: u16be; a: u32be[n]; b: u32be[n + 1]; c: u32be[n + 2]; d: u32be[n + 65536]; e: u32be[n + 65537]; }",
		"2 4 0..262140 4 4..262144 4 8..262144 4 262144 4 262144 | 524302..1310718")
	checkTable(t, "struct S { n: u64be; a: u16be[n]; b: u8[n * 8 + 7]; }", "8 2 0..131072 1 7..65536 | 15..196616")
	checkTable(t, "struct S { n: u8; a: u8[1 - 2]; b: u8[n - 256]; c: u8[n / 0]; }", "1 1 0 1 0 1 0 | 1")
	checkTable(t, "struct E { } struct T { a: tail; } struct V { n: u8; a: bytes[n]; } struct S { a: E[7]; b: T[7]; c: V[7]; d: V[1 - 2]; e: T[1 - 2]; f: T[0]; }",
		"0..max 1 0..255 0 0 0..max 0..max 1..256 7..1792 1..256 0 0..max 0 0..max 0 | 0 0..max 1..256 7..max")
	checkTable(t, "struct T(p) { a: bytes[p]; b: u8; } struct S { n: u8; a: T(n)[n + 1]; b: T(1)[2]; }", "0..max 1 1 1..max 1..max 1..max 2..max | 1..max 4..max")
	// Too great for a size: 65536 times 2 to the power of 24 is not, but more is.
	checkTable(t, "struct A { a: bytes[16777216]; } struct B { a: A[65536]; } struct C { a: B[65536]; } struct D { a: C[2]; }",
		"16777216 16777216 max max max max max | 16777216 max max max")
	checkTable(t, "struct A { a: bytes[16777215]; } struct B { a: A[65536]; } struct C { a: B[1]; b: B[2]; c: B[0]; }",
		"16777215 16777215 1099511562240 1099511562240 1099511562240 1099511562240 max 1099511562240 0 | 16777215 1099511562240 max")
}

// P12.2: types that have the same size whatever is in them.
func TestWithout(t *testing.T) {
	for _, in := range []struct{ s, want string }{
		{"u8", "1"}, {"u64le", "8"}, {"none", "0"}, {"tail", "0..max"}, {"bytes[3]", "3"}, {"u16be[3]", "2 6"}, {"T", "5"}, {"T[2]", "5 10"}, {"at[0] u8", "1 0"}, {"window[7] u8", "1 7"},
	} {
		checkTable(t, "struct T { a: bytes[5]; } struct S { a: rest "+in.s+"; }", "5 "+in.want+" 0..max | 5 0..max")
		checkTable(t, "struct T { a: bytes[5]; } struct S { a: at[9] "+in.s+"; b: u8; }", "5 "+in.want+" 0 1 | 5 1")
		checkTable(t, "struct T { a: bytes[5]; } struct S { a: at[1 - 2] rest "+in.s+"; b: u8; }", "5 "+in.want+" 0..max 0 1 | 5 1")
		checkTable(t, "struct T { a: bytes[5]; } struct S { a: rest at[7] "+in.s+"; b: u8; }", "5 "+in.want+" 0 0..max 1 | 5 1..max")
	}
	checkTable(t, "struct S { a: none; b: tail; c: none; d: tail; }", "0 0..max 0 0..max | 0..max")
}

// P12.2
func TestSwitches(t *testing.T) {
	const before = "struct T { a: bytes[5]; } struct S { n: u8; s: switch (n) {"
	for _, x := range []struct{ s, types, size string }{
		{"", "", "0"},
		{"else: u16be;", "2 ", "2"},
		{"else: none;", "0 ", "0"},
		{"case 7: u16be;", "2 ", "2"},
		{"case 7: tail;", "0..max ", "0..max"},
		{"case 0: u16be; case 1: u32be;", "2 4 ", "2..4"},
		{"case 0: u32be; case 1: u16be;", "4 2 ", "2..4"},
		{"case 0: u32be; else: u16be;", "4 2 ", "2..4"},
		{"case 0: u16be; else: u32be;", "2 4 ", "2..4"},
		{"case 0: u16be; else: u16le;", "2 2 ", "2"},
		{"case 0: u16be; case 9: u8; case 2: u64be; case 3: u24be;", "2 1 8 3 ", "1..8"},
		{"case 0: u16be; case 9: u16be; case 2: u24be; else: u8;", "2 2 3 1 ", "1..3"},
		{"case 0: bytes[n + 3]; case 1: T; case 2: u8[4];", "3..258 5 1 4 ", "3..258"},
		{"case 0: T; case 1: bytes[n + 3]; else: u8[300];", "5 3..258 1 300 ", "3..300"},
		{"case 0: T; else: tail;", "5 0..max ", "0..max"},
		{"case 0: T; case 1: switch (n) { };", "5 0 ", "0..5"},
		{"case 0: T; case 1: switch (n) { case 3: u8; else: u16be; }; else: u24be;", "5 1 2 1..2 3 ", "1..5"},
		{"case 0: at[5] T; case 1: u8;", "5 0 1 ", "0..1"},
		{"case 0: window[6] T; case 1: u8;", "5 6 1 ", "1..6"},
		{"case 0: bytes[1 - 2]; case 1: u8;", "0 1 ", "0..1"},
		{"case 0: bytes[18446744073709551615]; case 1: u8;", "max 1 ", "1..max"},
	} {
		u, err := Of(parsed(t, before+x.s+" }; }"))
		if got := write(u.Types); err != api.OK || got != "5 1 "+x.types+x.size+" " {
			t.Errorf("%s: %s, %v; want %s", x.s, got, err, x.types+x.size)
		}
	}
}

// P12.2
func TestRefs(t *testing.T) {
	checkTable(t, "struct T { n: u8; a: bytes[n + 1]; } struct S { a: T; b: T; }", "1 1..256 2..257 2..257 | 2..257 4..514")
	checkTable(t, "struct A { a: u8; } struct B { a: u16be; } struct C { a: u24be; } struct S { a: C; b: A; c: B; d: A; }", "1 2 3 3 1 2 1 | 1 2 3 7")
	checkTable(t, "struct A { a: u8; } struct B { a: A; b: A; } struct C { a: B; b: B; } struct S { a: C; b: C; c: A; }", "1 1 1 2 2 4 4 1 | 1 2 4 9")
	checkTable(t, "struct E { } struct S { a: E; b: E; }", "0 0 | 0 0")
	checkTable(t, "struct P(p, q) { a: bytes[p * 0]; b: bytes[5]; } struct S { a: P(1, 2); b: P(7, 1 - 2); }", "0 5 5 5 | 5 10")
	checkTable(t, "struct P(p) { a: bytes[p]; b: u8; } struct S { a: P(3); }", "0..max 1 1..max | 1..max 1..max")
	checkTable(t, "struct n { a: u16be; } struct S { n: u8; a: n; b: bytes[n]; }", "2 1 2 0..255 | 2 3..258")
}

// P12.2: files as great and as deep as they may be.
func TestGreat(t *testing.T) {
	most := api.MaxDepth
	deep := strings.Repeat("switch (n) { case 0: u8; else: ", most) + "bytes[n + 2]" + strings.Repeat("; }", most)
	want := "1 " + strings.Repeat("1 ", most) + "2..257 " + strings.Repeat("1..257 ", most) + "| 2..258"
	checkTable(t, "struct S { n: u8; a: "+deep+"; }", want)
	checkTable(t, "struct S { n: u8; a: bytes["+strings.Repeat("n + ", 4000)+"1]; }", "1 1..1020001 | 2..1020002")
	s := "struct A { a: bytes[2]; } struct S0 { a: A; }"
	types, structs := "2 2 ", "| 2 2"
	for i := range api.MaxStructs - 2 {
		s += fmt.Sprintf(" struct S%d { a: S%d; b: S%d; }", i+1, i, i)
		n := fmt.Sprint(min(uint64(2)<<i, api.MaxSize))
		types += n + " " + n + " "
		structs += " " + fmt.Sprint(min(uint64(4)<<i, api.MaxSize))
	}
	checkTable(t, s, strings.ReplaceAll(types+structs, fmt.Sprint(api.MaxSize), "max"))
	wide := ""
	for i := range api.MaxItems / 2 {
		wide += fmt.Sprintf("pack u8 { a%d: 1; b%d: 2; c%d: 5; } d%d: bytes[a%d + b%d + c0]; ", i, i, i, i, i, i)
	}
	checkTable(t, "struct S { "+wide+"} struct T { "+wide+"}", strings.Repeat("0..35 ", api.MaxItems)+"| 32..1152 32..1152")
}

// Rules 4 and 7: the file is left as it is, and results are new memory.
func TestMemory(t *testing.T) {
	const s = "const K = 2; struct T(p) { a: bytes[p]; } struct S { n: u8; pack u8 { x: 3; y: 5; } a: T(n)[K]; b: window[n] rest u8; s: switch (n) { case 1: u8; else: none; }; }"
	f := parsed(t, s)
	first, _ := Of(f)
	again, _ := Of(f)
	if Empty(f); !reflect.DeepEqual(f, parsed(t, s)) {
		t.Errorf("the file was changed")
	}
	for _, list := range [][]bounds.Range{first.Types, first.Structs} {
		all := list[:cap(list)]
		for i := range all {
			all[i] = bounds.Range{Lo: 77, Hi: 99}
		}
	}
	third, _ := Of(f)
	if !reflect.DeepEqual(again, third) || again.Types[0] == first.Types[0] {
		t.Errorf("the results share memory: %v, %v", again, third)
	}
	u, _ := Of(f)
	for i := range u.Types[:cap(u.Types)] {
		u.Types[:cap(u.Types)][i] = bounds.Range{Lo: 77, Hi: 99}
	}
	if !reflect.DeepEqual(u.Structs, again.Structs) {
		t.Errorf("the lists of a result share memory: %v, %v", u.Structs, again.Structs)
	}
	// The same File with another number in it is sized anew.
	f.Consts[0].N = 1
	f.Exprs[0].Name = "K"
	f.Structs[0].Items[0].Type = 0
	if u, err := Of(f); err != api.OK || u.Types[0] != bounds.Point(1) {
		t.Errorf("with other numbers: %v, %v", u, err)
	}
}
