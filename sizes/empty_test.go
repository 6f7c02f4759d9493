package sizes

import (
	"fmt"
	"strings"
	"testing"

	"calliper/api"
)

// checkEmpty checks the name of the first field with a list whose elements can be empty;
// no name is OK.
func checkEmpty(t *testing.T, s, want string) {
	t.Helper()
	err := api.OK
	if want != "" {
		err = api.ErrEmpty
	}
	if name, got := Empty(parsed(t, s)); name != want || got != err {
		t.Errorf("%s: %q, %v; want %q, %v", s, name, got, want, err)
	}
}

const someStructs = "const K = 3; const Z = 0; struct E { } struct N { a: none; b: bytes[0]; } struct O { a: u8; } struct V { n: u8; b: bytes[n]; } " +
	"struct T { a: tail; } struct P(p) { a: bytes[p]; } struct Q(p) { a: bytes[p]; b: u8; } struct R(p) { a: bytes[p + 1]; } struct L { a: rest u8; } "

// P12.3: what elements can be empty.
func TestElements(t *testing.T) {
	for _, x := range []string{
		"none", "tail", "bytes[0]", "bytes[n]", "bytes[Z]", "bytes[K - 3]", "zero[n]", "skip[n]", "window[n] u8", "window[0] u8", "window[m] rest u8", "at[0] u8", "at[n] bytes[5]",
		"rest u8", "u8[0]", "u8[n]", "u8[Z]", "u8[n * 8]", "u8[1 - 2]", "bytes[1 - 2]", "bytes[n - 256]", "O[n]", "switch (n) { }", "switch (n) { case 1: none; }", "switch (n) { else: tail; }",
		"switch (n) { case 1: u8; else: none; }", "switch (n) { case 1: none; else: u8; }", "switch (n) { case 1: u8; case 2: at[0] u8; case 3: u8; }", "E", "N", "T", "P(1)", "P(n)", "L",
	} {
		checkEmpty(t, someStructs+"struct S { n: u8; m: u16be; a: rest "+x+"; }", "a")
		checkEmpty(t, someStructs+"struct S { n: u8; m: u16be; a: "+x+"; }", "")
	}
	for _, x := range []string{
		"u8", "u64le", "bytes[1]", "bytes[K]", "bytes[n + 1]", "bytes[m + 1]", "bytes[!Z]", "bytes[1099511627777]", "zero[1]", "skip[K]", "window[1] none", "window[n + K] tail",
		"u8[1]", "u8[K]", "u8[n + 1]", "u8[70000]", "O", "O[2]", "V", "V[n + 1]", "Q(0)", "R(n)", "R(0)[1]", "switch (n) { else: u8; }", "switch (n) { case 1: u8; }", "switch (n) { case 1: u8; else: bytes[n + 1]; }",
	} {
		checkEmpty(t, someStructs+"struct S { n: u8; m: u16be; a: rest "+x+"; }", "")
	}
	for _, x := range []string{"E", "N", "T", "P(1)", "P(n)", "L"} {
		for _, n := range []string{"0", "1", "n", "K", "n + 1", "1 - 2"} {
			checkEmpty(t, someStructs+"struct S { n: u8; a: "+x+"["+n+"]; }", "a")
		}
	}
	for _, x := range []string{"u8", "u32be", "O", "V", "Q(0)", "R(0)"} {
		for _, n := range []string{"0", "1", "n", "K", "n + 1", "1 - 2", "70000"} {
			checkEmpty(t, someStructs+"struct S { n: u8; a: "+x+"["+n+"]; }", "")
		}
	}
}

// P12.3: a list in any part of the type of a field.
func TestParts(t *testing.T) {
	for _, form := range []string{
		"%s", "rest window[1] %s", "window[n] %s", "at[n] %s", "window[0] at[3] window[n] %s", "switch (n) { case 1: %s; }", "switch (n) { else: %s; }", "switch (n) { case 0: u8; case 1: %s; case 2: u8; else: u8; }",
		"switch (n) { case 0: switch (n) { case 1: u8; else: at[1] %s; }; else: u8; }", "rest switch (n) { case 0: u8; else: window[1] %s; }", "rest window[1] rest window[1] %s",
	} {
		for _, list := range []string{"rest none", "E[1]", "rest E[0]", "rest rest u8", "T[n]", "rest at[0] rest u8"} {
			checkEmpty(t, someStructs+"struct S { n: u8; b: u8[3]; a: "+fmt.Sprintf(form, list)+"; c: rest u8; }", "a")
		}
		for _, list := range []string{"rest u8", "O[1]", "rest O[1]", "none", "tail", "E", "V[n]"} {
			checkEmpty(t, someStructs+"struct S { n: u8; b: u8[3]; a: "+fmt.Sprintf(form, list)+"; c: rest u8; }", "")
		}
	}
	checkEmpty(t, "struct S { a: rest rest none; }", "a")
}

// P12.3: of several fields the first one, struct by struct, whichever struct is used.
func TestFirst(t *testing.T) {
	checkEmpty(t, "struct S { a: rest none; b: rest none; }", "a")
	checkEmpty(t, "struct S { b: rest u8; c: rest tail; a: rest none; }", "c")
	checkEmpty(t, "struct S { b: rest tail; a: u8; }", "b")
	checkEmpty(t, "struct S { pack u8 { x: 8; } a: u8; pack u8 { y: 8; } b: rest none; pack u8 { z: 8; } c: rest none; }", "b")
	checkEmpty(t, "struct T { a: u8; b: rest none; } struct S { c: rest none; }", "b")
	checkEmpty(t, "struct T { a: u8; } struct U { } struct V { b: u8; c: rest none; } struct S { d: rest none; a: T; }", "c")
	checkEmpty(t, "struct T(p) { a: u8; b: rest bytes[p]; } struct S { a: u8; }", "b")
	checkEmpty(t, "struct T { b: rest none; } struct S { a: T; b: T[2]; }", "b")
	checkEmpty(t, "struct T { b: window[1] rest none; } struct S { a: T; c: u8[2]; }", "b")
	checkEmpty(t, "struct S { n: u8 = countof(a); a: rest bytes[n]; }", "a")
	checkEmpty(t, "struct S { n: u8 = countof(a); a: rest bytes[n + 1]; }", "")
	checkEmpty(t, "struct S { }", "")
	checkEmpty(t, "struct T { a: u8; } struct S { pack u8 { x: 8; } }", "")
	checkEmpty(t, "const K = 1; struct T { a: tail; } struct S { a: T; b: T; }", "")
}

// P12.3: files as great and as deep as they may be.
func TestEmptyGreat(t *testing.T) {
	most := api.MaxDepth
	deep := strings.Repeat("window[1] ", most-1) + "rest none"
	checkEmpty(t, "struct S { a: "+deep+"; }", "a")
	checkEmpty(t, "struct S { a: "+deep[:len(deep)-4]+"u8; }", "")
	s := ""
	for i := range api.MaxStructs {
		s += fmt.Sprintf("struct S%d { a%d: rest u8; b%d: rest bytes[1]; } ", i, i, i)
	}
	checkEmpty(t, s, "")
	checkEmpty(t, strings.Replace(s, "b63: rest bytes[1]", "b63: rest bytes[0]", 1), "b63")
	checkEmpty(t, strings.Replace(s, "a0: rest u8", "a0: rest none", 1), "a0")
	checkEmpty(t, strings.Replace(s, "b31: rest bytes[1]", "b31: rest tail", 1), "b31")
	items := ""
	for i := range api.MaxItems {
		items += fmt.Sprintf("c%d: rest u8; ", i)
	}
	checkEmpty(t, "struct S { "+items+"}", "")
	checkEmpty(t, "struct S { "+strings.Replace(items, "c63: rest u8", "c63: rest tail", 1)+"}", "c63")
}
