package names

import (
	"fmt"
	"strings"
	"testing"

	"calliper/api"
)

// verdict is what Check says of a description.
type verdict struct {
	s, name string
	err     api.Errno
}

func checkAll(t *testing.T, list []verdict) {
	t.Helper()
	for _, x := range list {
		checkNames(t, x.s, x.name, x.err)
	}
}

// P9.2, 1 and 2: consts, structs and params.
func TestDefinitions(t *testing.T) {
	checkAll(t, []verdict{
		{"const K = 1; const L = 1; struct S { }", "", api.OK},
		{"const K = 1; const K = 1; struct S { }", "K", api.ErrThere},
		{"const K = 1; const L = 2; const M = 3; const L = 4; const K = 5;", "L", api.ErrThere},
		{"const K = 1; struct K { } struct S { }", "", api.OK},
		{"struct K { } const K = 1; const K = 1;", "K", api.ErrThere},
		{"struct S { } struct T { } struct S { }", "S", api.ErrThere},
		{"struct S { } struct s { }", "", api.OK},
		{"struct A { } struct B { } struct C { } struct B { } struct A { }", "B", api.ErrThere},
		{"struct S(p, q) { } struct T { }", "", api.OK},
		{"struct S(p, q, p) { } struct T { }", "p", api.ErrThere},
		{"struct S(p, q, q, p) { } struct T { }", "q", api.ErrThere},
		{"struct S(p) { } struct T(p) { } struct U { }", "", api.OK},
		{"struct S(S, T) { } struct T { }", "", api.OK},
		{"struct S(p, K, p) { } struct T { } const K = 1;", "K", api.ErrThere},
	})
}

// P9.2, 3: packs.
func TestPacks(t *testing.T) {
	checkAll(t, []verdict{
		{"struct S { pack u8 { x: 8; } }", "", api.OK},
		{"struct S { pack u16le { x: 1; y: 15; } pack u24be { z: 23; w: 1; } }", "", api.OK},
		{"struct S { pack u32be { x: 32; } pack u64le { y: 63; z: 1; } }", "", api.OK},
		{"struct S { pack u64be { x: 64; } }", "", api.OK},
		{"struct S { pack u8 { x: 3; y: 4; } }", "x", api.ErrArg},
		{"struct S { pack u8 { x: 4; y: 5; } }", "x", api.ErrArg},
		{"struct S { pack u8 { x: 8; y: 0; } }", "x", api.ErrArg},
		{"struct S { pack u8 { x: 0; y: 8; } }", "x", api.ErrArg},
		{"struct S { pack u16be { x: 8; } }", "x", api.ErrArg},
		{"struct S { pack u64be { x: 65; } }", "x", api.ErrArg},
		{"struct S { pack u8 { x: 18446744073709551615; y: 9; } }", "x", api.ErrArg},
		{"const x = 1; struct S { pack u8 { x: 7; } }", "x", api.ErrArg},
		{"struct S { pack u8 { x: 4; x: 4; } }", "x", api.ErrThere},
		{"struct S { pack u8 { x: 4; y: 4; } pack u8 { z: 4; y: 4; } }", "y", api.ErrThere},
		{"struct S { x: u8; pack u8 { y: 4; x: 4; } }", "x", api.ErrThere},
		{"struct S { x: none; pack u8 { y: 4; x: 4; } }", "x", api.ErrThere},
		{"struct S { pack u8 { y: 4; x: 4; } x: u8; }", "x", api.ErrThere},
		{"struct S { pack u8 { y: 4; K: 4; } } const K = 1;", "K", api.ErrThere},
		{"struct S(p) { pack u8 { y: 4; p: 4; } } struct T { }", "p", api.ErrThere},
		{"struct S { pack u8 { x: 8; } } struct T { pack u8 { x: 8; } y: bytes[x]; }", "", api.OK},
		{"struct S { pack u8 { S: 4; T: 4; } } struct T { }", "", api.OK},
	})
}

// P9.2, 4: the names of fields, and what of them is in scope.
func TestScopes(t *testing.T) {
	checkAll(t, []verdict{
		{"struct S { x: u8; y: u8; }", "", api.OK},
		{"struct S { x: u8; y: u8; x: none; }", "x", api.ErrThere},
		{"struct S { x: none; x: none; }", "x", api.ErrThere},
		{"struct S { K: u8; } const K = 1;", "K", api.ErrThere},
		{"struct S(p) { p: none; } struct T { }", "p", api.ErrThere},
		{"struct S(p) { x: bytes[p]; } struct T { p: u8; x: bytes[p]; }", "", api.OK},
		{"struct S(p) { } struct T { x: bytes[p]; }", "p", api.ErrNone},
		{"struct S { n: u8; } struct T { x: bytes[n]; }", "n", api.ErrNone},
		{"struct S { x: bytes[K]; y: u8 where K; } const K = 1;", "", api.OK},
		{"struct S { x: bytes[S]; }", "S", api.ErrNone},
		{"struct S { x: u8; y: bytes[x]; z: bytes[y]; }", "y", api.ErrNone},
		{"struct S { x: bytes[x]; }", "x", api.ErrNone},
		{"struct S { x: u8[x]; }", "x", api.ErrNone},
		{"struct S { x: window[x] tail; }", "x", api.ErrNone},
		{"struct S { x: u8 where x; }", "", api.OK},
		{"struct S { x: u8 where y; y: u8; }", "y", api.ErrNone},
		{"struct S { x: u8[1] where x; }", "x", api.ErrNone},
		{"struct S { x: none where x; }", "x", api.ErrNone},
		{"struct S { y: u8; x: none where y; }", "", api.OK},
		{"struct S { pack u8 { x: 8; } y: u8 where y == x; }", "", api.OK},
		{"struct S { y: u8 where x; pack u8 { x: 8; } }", "x", api.ErrNone},
		{"struct S { x: u8 = sizeof(y) where x; y: bytes[x]; z: bytes[x]; }", "", api.OK},
		{"struct S { x: u8 = countof(y) where x; y: u8[x]; z: bytes[x]; }", "", api.OK},
		{"struct S { y: u8; x: u32be = crc32(y..y) where x; }", "x", api.ErrNone},
		{"struct S { y: u8; x: u32be = adler32(y..y) where x; }", "x", api.ErrNone},
		{"struct S { y: u8; x: u32be = adler32(y..y); z: bytes[x]; }", "x", api.ErrNone},
		{"struct S { x: u8 where a + b; }", "a", api.ErrNone},
		{"struct S { x: u8 where x + b * c; }", "b", api.ErrNone},
		{"struct S { x: u8 where 1 + (!c - b); }", "c", api.ErrNone},
		{"struct S { x: u8 where (x == x) && !(0x10 + !b); }", "b", api.ErrNone},
	})
	for _, typ := range strings.Fields("u8 u16be u16le u24be u24le u32be u32le u64be u64le") {
		checkNames(t, "struct S { x: "+typ+" where x; y: bytes[x]; }", "", api.OK)
	}
	for _, typ := range strings.Split("bytes[1],zero[1],skip[1],tail,u8[1],rest u8,window[1] u8,at[1] u8,switch (1) { else: u8; },T,none", ",") {
		checkNames(t, "struct T { } struct S { x: "+typ+"; y: bytes[x]; }", "x", api.ErrNone)
		checkNames(t, "struct T { } struct S { x: "+typ+" where x; }", "x", api.ErrNone)
	}
}

// P9.2, 4: the names in types, and that the first one in the order of the text counts.
func TestTypeNames(t *testing.T) {
	const before = "struct T { } struct P(p) { } struct Q(p, q) { } struct S { n: u8; a: "
	for _, x := range []verdict{
		{"bytes[x]", "x", api.ErrNone},
		{"zero[x]", "x", api.ErrNone},
		{"skip[x]", "x", api.ErrNone},
		{"u8[x]", "x", api.ErrNone},
		{"T[x]", "x", api.ErrNone},
		{"window[x] bytes[y]", "x", api.ErrNone},
		{"window[n] bytes[y]", "y", api.ErrNone},
		{"at[x] bytes[y]", "x", api.ErrNone},
		{"at[n] bytes[y]", "y", api.ErrNone},
		{"window[n] at[n] rest u8[y]", "y", api.ErrNone},
		{"rest bytes[y]", "y", api.ErrNone},
		{"switch (x) { case 1: bytes[y]; else: bytes[z]; }", "x", api.ErrNone},
		{"switch (n) { case 1: bytes[y]; else: bytes[z]; }", "y", api.ErrNone},
		{"switch (n) { case 1: bytes[n]; case 2: bytes[y]; else: bytes[z]; }", "y", api.ErrNone},
		{"switch (n) { case 1: bytes[n]; else: bytes[z]; }", "z", api.ErrNone},
		{"switch (n) { case 1: bytes[n]; case 0: none; else: tail; }", "", api.OK},
		{"U", "U", api.ErrNone},
		{"U(x)[y]", "U", api.ErrNone},
		{"S", "S", api.ErrNone},
		{"rest S", "S", api.ErrNone},
		{"V", "V", api.ErrNone},
		{"n", "n", api.ErrNone},
		{"T(n)", "T", api.ErrArg},
		{"T(x)", "T", api.ErrArg},
		{"P", "P", api.ErrArg},
		{"P[x]", "P", api.ErrArg},
		{"P(x)[y]", "x", api.ErrNone},
		{"P(n)[y]", "y", api.ErrNone},
		{"P(n, n)", "P", api.ErrArg},
		{"Q(n)", "Q", api.ErrArg},
		{"Q(n, x + y)", "x", api.ErrNone},
		{"Q(y, x)", "y", api.ErrNone},
		{"Q(n, 1)[n]", "", api.OK},
		{"window[n] Q(n)", "Q", api.ErrArg},
		{"rest Q(x, 1)", "x", api.ErrNone},
		{"switch (n) { case 1: U; else: V; }", "U", api.ErrNone},
		{"switch (n) { case 1: T; else: V; }", "V", api.ErrNone},
		{"switch (n) { case 1: P; case 2: U; }", "P", api.ErrArg},
	} {
		checkNames(t, before+x.s+"; } struct V { }", x.name, x.err)
		checkNames(t, before+"rest "+x.s+"; } struct V { }", x.name, x.err)
	}
}

// P9.2, 4: cases of the same number.
func TestCases(t *testing.T) {
	const before = "struct S { n: u8; a: "
	for _, x := range []verdict{
		{"switch (n) { case 1: u8; case 2: u8; case 0: u8; }", "", api.OK},
		{"switch (n) { }", "", api.OK},
		{"switch (n) { case 1: u8; case 2: u8; case 1: u8; }", "a", api.ErrThere},
		{"switch (n) { case 1: u8; case 0x01: u8; }", "a", api.ErrThere},
		{"switch (n) { case 18446744073709551615: u8; case 0xFFFFFFFFFFFFFFFF: u8; }", "a", api.ErrThere},
		{"switch (x) { case 1: u8; case 1: u8; }", "x", api.ErrNone},
		{"switch (n) { case 1: bytes[x]; case 1: u8; }", "a", api.ErrThere},
		{"switch (n) { case 1: u8; case 2: U; else: switch (n) { case 1: u8; case 1: u8; }; }", "U", api.ErrNone},
		{"switch (n) { case 1: switch (n) { case 2: u8; case 2: u8; }; case 2: U; }", "a", api.ErrThere},
		{"switch (n) { case 1: switch (n) { case 1: u8; }; case 2: switch (n) { case 1: u8; }; else: switch (n) { case 1: u8; }; }", "", api.OK},
		{"window[n] rest switch (n) { else: switch (n) { case 3: u8; case 3: u8; }; }", "a", api.ErrThere},
	} {
		checkNames(t, before+x.s+"; }", x.name, x.err)
	}
	all := ""
	for i := range api.MaxItems - 1 {
		all += fmt.Sprintf(" case %d: u8;", i)
	}
	checkNames(t, before+"switch (n) {"+all+" case 64: u8; }; }", "", api.OK)
	checkNames(t, before+"switch (n) {"+all+" case 0: u8; }; }", "a", api.ErrThere)
	checkNames(t, before+"switch (n) {"+all+" case 62: u8; }; }", "a", api.ErrThere)
}

// P9.2, 4: measured fields whose form depends on a measure.
func TestMeasuredForm(t *testing.T) {
	const consts = "const K = 1; const m = 2; struct P(p) { a: zero[p]; } struct Q(p, q) { } "
	for _, x := range []struct {
		typ  string
		fine bool
	}{
		{"switch (n) { }", false},
		{"switch (k) { }", true},
		{"switch (1 + (k - !n)) { else: u8; }", false},
		{"zero[n]", false},
		{"zero[K + k]", true},
		{"skip[k * n]", false},
		{"skip[1]", true},
		{"P(n)", false},
		{"P(k)", true},
		{"P(k)[n]", true},
		{"P(n)[k]", false},
		{"Q(k, n)", false},
		{"Q(k, K)", true},
		{"bytes[n]", true},
		{"u8[n]", true},
		{"window[n] at[n] rest u8[n]", true},
		{"rest window[k] at[k] skip[n]", false},
		{"at[k] P(n)", false},
		{"switch (k) { case 1: zero[n]; }", false},
		{"switch (k) { case 1: bytes[n]; else: skip[n]; }", false},
		{"switch (k) { case 1: bytes[n]; else: window[n] tail; }", true},
		{"switch (k) { case 1: switch (n) { }; }", false},
		{"zero[m]", false},
		{"bytes[m]", true},
	} {
		for _, der := range []string{"sizeof", "countof"} {
			s := consts + "struct S { k: u8; n: u8 = sizeof(b); b: " + x.typ + "; m: u8 = " + der + "(c); c: rest u8; }"
			if x.fine {
				checkNames(t, s, "m", api.ErrThere)
			} else {
				checkNames(t, s, "b", api.ErrState)
			}
			s = strings.NewReplacer("const m = 2;", "", "[m]", "[n]", "m:", "l:").Replace(s)
			if x.fine || x.typ == "bytes[m]" {
				checkNames(t, s, "", api.OK)
			} else {
				checkNames(t, s, "b", api.ErrState)
			}
		}
	}
	checkAll(t, []verdict{
		{"struct S { n: u8 = countof(b); b: rest zero[n]; }", "b", api.ErrState},
		{"struct S { n: u8 = sizeof(b); b: bytes[1] where n; }", "", api.OK},
		{"struct S { n: u8 = sizeof(b); c: zero[n]; b: u8; }", "", api.OK},
		{"struct S { n: u8 = sizeof(b); b: u8; c: zero[n]; }", "", api.OK},
		{"struct S { n: u8 = sizeof(b); m: u8 = sizeof(c); c: zero[n]; b: u8; }", "c", api.ErrState},
		{"struct S { n: u8 = sizeof(c); m: u8 = sizeof(n); c: u8; }", "n", api.ErrNone},
		{"struct S { b: zero[K]; K: u8 = sizeof(b); } const K = 1;", "K", api.ErrThere},
		{"struct S { a: u8; n: u32be = crc32(a..a); b: zero[n]; }", "n", api.ErrNone},
		{"struct S { n: u8 = sizeof(b); b: zero[x + n]; }", "x", api.ErrNone},
		{"struct S { n: u8 = sizeof(b); b: zero[n + x]; }", "x", api.ErrNone},
		{"struct S { n: u8 = sizeof(b); b: zero[n] = sizeof(n) where x; }", "b", api.ErrState},
		{"const n = 1; struct T(n) { } struct S { k: u8 = sizeof(b); b: zero[n]; }", "n", api.ErrThere},
		{"struct S { k: u8 = sizeof(b); b: switch (k + 1) { case 1: u8; case 1: u8; }; }", "b", api.ErrThere},
		{"struct S { k: u8 = sizeof(b); b: zero[j]; pack u8 { j: 8; } }", "j", api.ErrNone},
		{"const j = 1; struct S { k: u8 = sizeof(b); b: zero[j]; pack u8 { j: 8; } }", "j", api.ErrThere},
		{"const j = 1; struct S { k: u8 = sizeof(b); b: zero[j]; j: u8; }", "j", api.ErrThere},
		{"const j = 1; struct S { k: u8 = sizeof(b); b: zero[j]; a: u8; j: u32be = crc32(a..a); }", "j", api.ErrThere},
		{"const j = 1; struct S { k: u8 = sizeof(b); b: zero[j]; j: none = sizeof(k); }", "b", api.ErrState},
		{"struct S(j) { k: u8 = sizeof(b); b: zero[j]; j: u8 = sizeof(c); } struct T { }", "b", api.ErrState},
		{"const j = 1; struct T { j: u8 = sizeof(c); c: u8; } struct S { }", "j", api.ErrThere},
		{"struct T { j: u8 = sizeof(c); c: u8; } struct S(j) { k: u8 = sizeof(b); b: zero[j]; } struct R { }", "", api.OK},
		{"struct T { k: u8 = sizeof(b); b: u8; } struct S { k: u8; b: zero[k]; }", "", api.OK},
		{"struct S { a: u8; k: u8 = sizeof(b); pack u8 { x: 8; } b: zero[x + a]; }", "", api.OK},
	})
}

// P9.2, 4: measures.
func TestMeasures(t *testing.T) {
	checkAll(t, []verdict{
		{"struct S { n: u8 = sizeof(b); b: u8; }", "", api.OK},
		{"struct S { n: u64le = sizeof(b); a: none; b: switch (1) { }; }", "", api.OK},
		{"struct S { n: u8 = sizeof(b); m: u8 = sizeof(b); l: u8 = countof(b); b: rest u8; }", "", api.OK},
		{"struct S { n: u8 = sizeof(m); m: u8 = sizeof(b); b: u8; }", "", api.OK},
		{"struct S { n: u8 = sizeof(n); }", "n", api.ErrNone},
		{"struct S { b: u8; n: u8 = sizeof(b); }", "b", api.ErrNone},
		{"struct S { b: u8; n: u8 = sizeof(b); b: u8; }", "b", api.ErrNone},
		{"struct S { b: rest u8; n: u8 = countof(b); b: rest u8; }", "b", api.ErrNone},
		{"struct S { n: u8 = sizeof(x); pack u8 { x: 8; } }", "x", api.ErrNone},
		{"struct S { n: u8 = sizeof(x); pack u8 { x: 8; } x: u8; }", "x", api.ErrThere},
		{"struct S { n: u8 = sizeof(K); } const K = 1;", "K", api.ErrNone},
		{"struct S(p) { n: u8 = sizeof(p); } struct T { }", "p", api.ErrNone},
		{"struct S { n: u8 = sizeof(S); }", "S", api.ErrNone},
		{"struct T { b: u8; } struct S { n: u8 = sizeof(b); } struct U { b: u8; }", "b", api.ErrNone},
		{"struct S { n: u8 = countof(b); b: u8[3]; }", "", api.OK},
		{"struct S { n: u8 = countof(b); b: rest rest u8; }", "", api.OK},
		{"struct S { n: u8 = countof(x); }", "x", api.ErrNone},
		{"struct S { n: u8 = countof(b); b: u8[2]; b: u8; }", "b", api.ErrThere},
		{"struct S { n: u8 = countof(b); b: u8; b: u8[2]; }", "b", api.ErrArg},
		{"struct S { n: u8 = countof(m); m: u8 = sizeof(b); b: u8[2]; }", "m", api.ErrArg},
	})
	for _, typ := range strings.Split("u8,bytes[1],zero[1],skip[1],tail,window[1] rest u8,at[1] u8[2],switch (1) { else: u8[1]; },T,none", ",") {
		checkNames(t, "struct T { } struct S { n: u8 = countof(b); b: "+typ+"; }", "b", api.ErrArg)
		checkNames(t, "struct T { } struct S { n: u8 = sizeof(b); b: "+typ+"; }", "", api.OK)
	}
	for _, typ := range strings.Split("bytes[1],zero[1],skip[1],tail,u8[1],rest u8,window[1] u8,at[1] u8,switch (1) { else: u8; },T,none", ",") {
		for _, der := range []string{"sizeof(x)", "countof(x)", "sizeof(b)", "countof(b)", "crc32(x..x)", "adler32(a..a)"} {
			checkNames(t, "struct T { } struct S { a: u8; n: "+typ+" = "+der+"; b: rest u8; }", "n", api.ErrArg)
		}
	}
}

// P9.2, 4: checksums.
func TestSums(t *testing.T) {
	for _, der := range []string{"crc32", "adler32"} {
		for _, x := range []verdict{
			{"struct S { a: u8; c: u32be = sum(a..a); }", "", api.OK},
			{"struct S { a: none; x: none; b: rest u8; c: u32le = sum(a..b); }", "", api.OK},
			{"struct S { a: u8; b: u8; c: u32be = sum(b..a); }", "c", api.ErrArg},
			{"struct S { a: u8; c: u32be = sum(c..a); }", "c", api.ErrNone},
			{"struct S { a: u8; c: u32be = sum(a..c); }", "c", api.ErrNone},
			{"struct S { a: u8; c: u32be = sum(x..y); }", "x", api.ErrNone},
			{"struct S { a: u8; c: u32be = sum(a..y); }", "y", api.ErrNone},
			{"struct S { a: u8; c: u32be = sum(d..y); d: u8; }", "d", api.ErrNone},
			{"struct S { a: u8; c: u32be = sum(a..d); d: u8; }", "d", api.ErrNone},
			{"struct S { a: u8; pack u8 { x: 8; } c: u32be = sum(x..a); }", "x", api.ErrNone},
			{"struct S { a: u8; pack u8 { x: 8; } c: u32be = sum(a..x); }", "x", api.ErrNone},
			{"struct S { a: u8; c: u32be = sum(a..K); } const K = 1;", "K", api.ErrNone},
			{"struct S(p) { a: u8; c: u32be = sum(p..a); } struct T { }", "p", api.ErrNone},
			{"struct T { a: u8; } struct S { c: u32be = sum(a..a); }", "a", api.ErrNone},
			{"struct S { a: u8; c: u32be = sum(a..a); d: u32be = sum(a..c); }", "", api.OK},
			{"struct S { a: u8; c: u32be = sum(a..a) where a; }", "", api.OK},
			{"struct S { a: u8; c: u32be = sum(a..y) where x; }", "y", api.ErrNone},
			{"struct S { a: u8; b: u8; c: u32be = sum(b..a) where x; }", "c", api.ErrArg},
			{"struct S { n: u8 = sizeof(c); c: u32be = sum(n..n); }", "", api.OK},
		} {
			checkNames(t, strings.ReplaceAll(x.s, "sum", der), x.name, x.err)
		}
		for _, typ := range strings.Fields("u8 u16be u16le u24be u24le u64be u64le") {
			checkNames(t, "struct S { a: u8; c: "+typ+" = "+der+"(a..a); }", "c", api.ErrArg)
			checkNames(t, "struct S { a: u8; c: "+typ+" = "+der+"(x..y); }", "c", api.ErrArg)
		}
	}
}

// P9.2, 5: the root.
func TestRoot(t *testing.T) {
	checkAll(t, []verdict{
		{"", "", api.ErrNone},
		{"const K = 1; const L = 2;", "", api.ErrNone},
		{"const K = 1; const K = 2;", "K", api.ErrThere},
		{"struct S { }", "", api.OK},
		{"struct S(p) { }", "S", api.ErrArg},
		{"struct T { } struct S(p, q) { }", "S", api.ErrArg},
		{"struct S(p) { } struct T { }", "", api.OK},
		{"struct S(p) { x: bytes[q]; }", "q", api.ErrNone},
	})
}

// P9.2: of several errors, the one that is checked first is returned. Each step of a part
// but the last one has errors, and so has all that follows.
func TestOrder(t *testing.T) {
	const T, N, A, S = api.ErrThere, api.ErrNone, api.ErrArg, api.ErrState
	parts := [][]verdict{
		{{"const K = 1; const L = 2; const K = 3;", "K", T}, {"const K = 1; const m = 2;", "", 0}},
		{{"struct P(K, p, p) {", "K", T}, {"struct P(p, q, q) {", "q", T}, {"struct P(p, q) {", "", 0}},
		{{"pack u8 { q: 3; r: 6; r: 0; }", "q", A}, {"pack u8 { q: 3; r: 2; r: 3; }", "q", T}, {"pack u8 { r: 3; r: 5; }", "r", T}, {"pack u8 { r: 3; s: 5; }", "", 0}},
		{{"} struct P(x, x) {", "P", T}, {"} struct S(x, x) {", "x", T}, {"} struct S {", "", 0}},
		{{"a: u8; n: u8 = sizeof(b) where z;", "z", N}, {"a: u8; n: u8 = sizeof(b);", "", 0}},
		{
			{"pack u8 { b: 8; } b: switch (x) { case 1: T; case 1: bytes[y]; else: P(z)[w]; } = countof(x) where z;", "b", T},
			{"b: switch (x) { case 1: T; case 1: bytes[y]; else: P(z)[w]; } = countof(x) where z;", "x", N},
			{"b: switch (n) { case 1: T; case 1: bytes[y]; else: P(z)[w]; } = countof(x) where z;", "b", T},
			{"b: switch (n) { case 1: T; case 2: bytes[y]; else: P(z)[w]; } = countof(x) where z;", "T", N},
			{"b: switch (n) { case 1: u8; case 2: bytes[y]; else: P(z)[w]; } = countof(x) where z;", "y", N},
			{"b: switch (n) { case 1: u8; case 2: bytes[n]; else: P(z)[w]; } = countof(x) where z;", "P", A},
			{"b: switch (n) { case 1: u8; case 2: bytes[n]; else: P(1, z)[w]; } = countof(x) where z;", "z", N},
			{"b: switch (n) { case 1: u8; case 2: bytes[n]; else: P(1, n)[w]; } = countof(x) where z;", "w", N},
			{"b: switch (n) { case 1: u8; case 2: bytes[n]; else: P(1, n)[a]; } = countof(x) where z;", "b", S},
			{"b: switch (a) { case 1: u8; case 2: bytes[n]; else: P(1, n)[a]; } = countof(x) where z;", "b", S},
			{"b: switch (a) { case 1: u8; case 2: bytes[n]; else: P(1, m)[a]; } = countof(x) where z;", "b", S},
			{"b: switch (a) { case 1: u8; case 2: bytes[n]; else: P(1, 2)[a]; } = countof(x) where z;", "b", A},
			{"b: u8 = countof(x) where z;", "x", N},
			{"b: u8 = countof(c) where z;", "c", A},
			{"b: u8 = sizeof(c) where b || z;", "z", N},
			{"b: u8 = sizeof(c) where b;", "", 0},
		},
		{
			{"c: u16be = crc32(x..y) where c;", "c", A},
			{"c: u32be = crc32(x..y) where c;", "x", N},
			{"c: u32be = crc32(b..y) where c;", "y", N},
			{"c: u32be = crc32(b..a) where c;", "c", A},
			{"c: u32be = crc32(a..b) where c;", "c", N},
			{"c: u32be = crc32(a..b) where b;", "", 0},
		},
		{{"m: u8 = sizeof(x); }", "m", T}, {"d: tail; }", "", 0}},
		{{"struct R(p) { x: y; }", "y", N}, {"struct R(p) { }", "R", A}, {"struct R { }", "", 0}},
	}
	before := ""
	for i, part := range parts {
		after := ""
		for _, later := range parts[i+1:] {
			after += later[0].s + " "
		}
		for _, x := range part[:len(part)-1] {
			checkNames(t, before+x.s+" "+after, x.name, x.err)
		}
		before += part[len(part)-1].s + " "
	}
	checkNames(t, before, "", api.OK)
}

// The chapter's examples.
func TestExamples(t *testing.T) {
	checkNames(t, "struct S { b: bytes[n]; n: u8; }", "n", api.ErrNone)
	checkNames(t, "struct S { n: u8 = sizeof(b); b: bytes[n]; }", "", api.OK)
}

// P9.2: files as great and as deep as they may be.
func TestGreat(t *testing.T) {
	most := api.MaxDepth
	deep := strings.Repeat("switch (n) { case 0: u8; else: ", most) + "bytes[x]" + strings.Repeat("; }", most)
	checkNames(t, "struct S { n: u8; a: "+deep+"; }", "x", api.ErrNone)
	checkNames(t, "struct S { n: u8; x: u8; a: "+deep+"; }", "", api.OK)
	checkNames(t, "struct S { n: u8; x: u8 = sizeof(a); a: "+deep+"; }", "", api.OK)
	checkNames(t, "struct S { x: u8; n: u8 = sizeof(a); a: "+deep+"; }", "a", api.ErrState)
	long := strings.Repeat("n + ", (api.MaxText-100)/4)
	checkNames(t, "struct S { n: u8; a: u8 where "+long+"x; }", "x", api.ErrNone)
	checkNames(t, "struct S { n: u8; a: u8 where "+long+"a; }", "", api.OK)
	checkNames(t, "struct S { n: u8 = sizeof(a); a: zero["+strings.Replace(long, "n", "1", -1)+"n]; }", "a", api.ErrState)
	wide := ""
	for i := range api.MaxItems {
		wide += fmt.Sprintf("pack u8 { a%d: 1; b%d: 2; c%d: 5; } ", i, i, i)
	}
	checkNames(t, "struct S { "+wide+"} struct T { "+wide+"}", "", api.OK)
	checkNames(t, "struct S { "+wide+"} struct T { "+strings.Replace(wide, "c63", "b0", 1)+"}", "b0", api.ErrThere)
}
