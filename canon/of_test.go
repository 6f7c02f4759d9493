package canon

import (
	"fmt"
	"reflect"
	"slices"
	"strings"
	"testing"

	"calliper/api"
	"calliper/parse"
)

// checkClass checks the class of a valid description, written as `{canonical writable
// [skips] [looks] depth}`, and the structs that are used, by their names.
func checkClass(t *testing.T, s, want, used string) {
	t.Helper()
	f := parsed(t, s)
	c, err := Of(f)
	if got := fmt.Sprint(c); got != want || err != api.OK {
		t.Errorf("%s\n got %s, %v\nwant %s", s, got, err, want)
	}
	var list []string
	for _, at := range Used(f) {
		list = append(list, f.Structs[at].Name)
	}
	if got := strings.Join(list, " "); got != used || !slices.IsSorted(Used(f)) {
		t.Errorf("%s\nuses %s; want %s", s, got, used)
	}
}

// P13.2: every kind of type, where it is all of a field's type, and where it is a part.
func TestKinds(t *testing.T) {
	for _, x := range []string{"u8", "u64le", "bytes[1]", "bytes[a]", "zero[3]", "tail", "none", "u16be[2]", "rest u8", "window[2] tail", "switch (a) { case 1: u8; else: none; }", "T", "T[a]", "rest T"} {
		checkClass(t, "struct T { t: u8; } struct S { a: u8; b: "+x+"; c: u8; }", fmt.Sprintf("{true true [] [] %d}", 1+strings.Count(x, "T")), strings.Repeat("T ", strings.Count(x, "T"))+"S")
	}
	for _, form := range []string{
		"%s", "window[a] %s", "rest %s", "window[1] rest %s", "window[1] window[a] window[2] %s", "switch (a) { case 3: %s; }", "switch (a) { else: %s; }", "switch (a) { case 1: u8; case 2: %s; else: u8; }",
		"switch (a) { case 1: u8; case 2: u8; else: window[3] %s; }", "switch (a) { case 1: switch (a) { case 1: u8; case 2: %s; else: u8; }; else: u8; }", "rest switch (a) { case 1: %s; else: u8; }",
	} {
		for _, x := range []struct{ s, want string }{
			{"u8", "{true true [] [] 1}"},
			{"zero[2]", "{true true [] [] 1}"},
			{"skip[1]", "{false true [b] [] 1}"},
			{"window[1] skip[a]", "{false true [b] [] 1}"},
			{"switch (1) { case 1: skip[1]; case 2: skip[2]; else: skip[3]; }", "{false true [b] [] 1}"},
			{"window[1] at[1] u8", "{false false [] [b] 1}"},
			{"window[1] at[1] at[a] at[3] u8", "{false false [] [b] 1}"},
			{"window[1] at[1] skip[1]", "{false false [b] [b] 1}"},
			{"switch (1) { case 1: skip[1]; else: window[1] at[0] none; }", "{false false [b] [b] 1}"},
			{"switch (1) { case 1: window[1] at[0] none; else: skip[1]; }", "{false false [b] [b] 1}"},
		} {
			checkClass(t, "struct S { a: u8; b: "+fmt.Sprintf(form, x.s)+"; c: u8; }", x.want, "S")
		}
	}
	checkClass(t, "struct S { a: at[0] u8; }", "{false false [] [a] 1}", "S")
	checkClass(t, "struct S { a: at[0] rest skip[1]; }", "{false false [a] [a] 1}", "S")
	checkClass(t, "struct S { a: skip[0]; }", "{false true [a] [] 1}", "S")
}

// P13.2: the fields in their order, each once, and none of its neighbours.
func TestFields(t *testing.T) {
	checkClass(t, "struct S { }", "{true true [] [] 1}", "S")
	checkClass(t, "struct S { b: skip[1]; a: u8; c: zero[1]; d: skip[2]; e: skip[3]; }", "{false true [b d e] [] 1}", "S")
	checkClass(t, "struct S { b: at[1] u8; a: skip[1]; d: at[2] at[3] u8; c: skip[2]; }", "{false false [a c] [b d] 1}", "S")
	checkClass(t, "struct S { z: skip[1]; y: window[2] skip[1]; x: at[2] skip[2]; w: switch (0) { case 0: skip[0]; case 1: skip[1]; }; }", "{false false [z y x w] [x] 1}", "S")
	checkClass(t, "struct S { pack u8 { x: 3; y: 5; } a: skip[x]; pack u16le { z: 16; } b: at[y] u8; pack u8 { w: 8; } }", "{false false [a] [b] 1}", "S")
	checkClass(t, "struct S { pack u8 { x: 8; } }", "{true true [] [] 1}", "S")
	// What is named skip, at or the like in some other way does not count.
	checkClass(t, "const skips = 1; struct Skip { at0: u8; } struct S { skip1: Skip; Skips: bytes[skips]; }", "{true true [] [] 2}", "Skip S")
	// Checks and derived fields do not count, either.
	checkClass(t, "struct S { n: u8 = sizeof(b); b: bytes[n]; c: u32be = crc32(n..b); d: u32be = adler32(b..b) where n < 9; k: u8 = countof(l) where k < 3; l: u8[k]; }", "{true true [] [] 1}", "S")
	items := ""
	var names []string
	for i := range api.MaxItems {
		items += fmt.Sprintf("a%d: skip[1]; ", i)
		names = append(names, fmt.Sprint("a", i))
	}
	checkClass(t, "struct S { "+items+"}", fmt.Sprintf("{false true %v [] 1}", names), "S")
	checkClass(t, "struct S { "+strings.ReplaceAll(items, "skip[1]", "at[1] none")+"}", fmt.Sprintf("{false false [] %v 1}", names), "S")
}

// P13.2: struct by struct, each once, however often it is used; a field that names a
// struct does not contain what that contains.
func TestStructs(t *testing.T) {
	const a, b = "struct A { x: skip[1]; y: at[0] u8; m: u8; } ", "struct B { x: at[1] u8; y: skip[2]; z: skip[3]; m: u8; } "
	checkClass(t, a+"struct S { s: A; }", "{false false [x] [y] 2}", "A S")
	checkClass(t, a+b+"struct S { s: B; t: A; }", "{false false [x y z] [y x] 2}", "A B S")
	checkClass(t, b+a+"struct S { s: B; t: A; u: skip[1]; }", "{false false [y z x u] [x y] 2}", "B A S")
	checkClass(t, a+b+"struct S { s: A; t: A[2]; x: skip[1]; r: rest A; }", "{false false [x x] [y] 2}", "A S")
	checkClass(t, a+b+"struct S { s: A; y: window[1] at[1] B; t: A; }", "{false false [x y z] [y x y] 2}", "A B S")
	checkClass(t, a+"struct C { c: A; } struct D { d: C; x: u8; } struct S { s: D; }", "{false false [x] [y] 4}", "A C D S")
	checkClass(t, "struct P(p) { x: skip[p]; } struct S { n: u8; s: P(n); t: P(1); }", "{false true [x] [] 2}", "P S")
}

// P13.2: the structs that are used, and the depth, in every form of a Ref.
func TestUsed(t *testing.T) {
	for _, form := range refForms {
		at := "[]"
		if strings.Contains(form, "at[") {
			at = "[b]"
		}
		want := fmt.Sprintf("{%v %v [] %s ", at == "[]", at == "[]", at)
		s := "struct X { x: skip[1]; y: u8; } struct T { t: u8; } struct Y { x: at[0] T; y: X; } struct S { a: u8; b: " + fmt.Sprintf(form, "T") + "; }"
		checkClass(t, s, want+"2}", "T S")
		s = strings.Replace(s, "struct T { t: u8; }", "struct U { u: u8; } struct T { t: U; }", 1)
		checkClass(t, s, want+"3}", "U T S")
	}
	// Of a diamond, the deeper side counts for the depth, on whichever side it stands.
	const s = "struct A { a: u8; } struct B { a: A; } struct C { a: B; } struct D { a: A; } "
	checkClass(t, s+"struct S { l: C; r: D; }", "{true true [] [] 4}", "A B C D S")
	checkClass(t, s+"struct S { l: D; r: C; }", "{true true [] [] 4}", "A B C D S")
	checkClass(t, s+"struct S { l: D; }", "{true true [] [] 3}", "A D S")
	checkClass(t, s+"struct S { l: B; r: D; }", "{true true [] [] 3}", "A B D S")
	checkClass(t, s+"struct S { l: A; r: u8; }", "{true true [] [] 2}", "A S")
	checkClass(t, s+"struct S { A: u8; B: bytes[A]; }", "{true true [] [] 1}", "S")
	// Two Refs in one type.
	checkClass(t, s+"struct S { x: switch (1) { case 1: A; else: D; }; }", "{true true [] [] 3}", "A D S")
	checkClass(t, s+"struct S { x: switch (1) { case 1: C; case 2: u8; else: A; }; }", "{true true [] [] 4}", "A B C S")
}

// P13.2: as many structs as there may be, all of them used, or none but the root.
func TestGreat(t *testing.T) {
	all, wide := "", ""
	var names []string
	for i := range api.MaxStructs - 1 {
		all += fmt.Sprintf("struct A%d { a%d: skip[1]; } ", i, i)
		wide += fmt.Sprintf("b%d: A%d; ", i, i)
		names = append(names, fmt.Sprint("a", i))
	}
	checkClass(t, all+"struct S { "+wide+"}", fmt.Sprintf("{false true %v [] 2}", names), strings.ToUpper(strings.Join(names, " "))+" S")
	checkClass(t, all+"struct S { }", "{true true [] [] 1}", "S")
	checkClass(t, all+"struct S { b: A62; c: A0; }", "{false true [a0 a62] [] 2}", "A0 A62 S")
	deep := "struct S { a: " + strings.Repeat("window[1] ", api.MaxDepth-1)
	checkClass(t, deep+"window[1] skip[1]; }", "{false true [a] [] 1}", "S")
	checkClass(t, deep+"at[1] u8; }", "{false false [] [a] 1}", "S")
	checkClass(t, deep+"at[1] skip[1]; b: u8; }", "{false false [a] [a] 1}", "S")
}

// P13.3: what the root does not use has no influence, whatever it contains.
func TestUnused(t *testing.T) {
	for _, x := range []struct{ s, want string }{
		{"struct S { }", "{true true [] [] 1}"},
		{"struct S { a: skip[1]; b: u8; }", "{false true [a] [] 1}"},
		{"struct S { a: at[1] skip[1]; b: u8; }", "{false false [a] [a] 1}"},
	} {
		for _, before := range []string{
			"const K = 1; ", "struct X { } ", "struct X { a: skip[1]; b: at[0] u8; } ", "struct X { a: skip[1]; } struct Y { a: X; b: at[0] X; } struct Z { a: X; c: Y; } ",
			"struct X(p) { a: skip[p]; b: at[p] u8; } ", chain("A", "at[1] %s", api.MaxDepth),
		} {
			checkClass(t, before+x.s, x.want, "S")
		}
	}
}

// The types of the structs of a file are each passed to a closure once, with their items.
func TestEachType(t *testing.T) {
	f := parsed(t, "struct T(p) { a: bytes[p]; pack u8 { x: 8; } b: u8[2]; } struct S { n: u8; a: at[1] T(n)[3]; b: rest switch (n) { case 1: u8; case 2: window[3] tail; else: skip[1]; }; }")
	for at, want := range []string{"0:1 2:5 2:0", "0:0 1:8 1:5 1:10 2:6 2:9 2:3 2:0 2:7 2:4"} {
		got := ""
		eachType(f, f.Structs[at], func(item int, x parse.Type) { got += fmt.Sprintf(" %d:%d", item, x.Kind) })
		if got != " "+want {
			t.Errorf("struct %d: %s; want %s", at, got, want)
		}
	}
}

// Rules 4 and 7: the file is left as it is, results are new memory, and a call depends on
// the file alone.
func TestMemory(t *testing.T) {
	const s = "struct T { x: skip[1]; y: at[1] u8; } struct U { a: u8; } struct S { n: u8; pack u8 { k: 3; l: 5; } a: T; s: switch (n) { case 1: skip[2]; else: at[1] none; }; }"
	const other = "struct A { } struct S { q: skip[1]; a: A; }"
	f, g := parsed(t, s), parsed(t, other)
	const want = "{false false [x s] [y s] 2}"
	for range 3 {
		c, _ := Of(f)
		d, _ := Of(g)
		list, again := Used(f), Used(f)
		if fmt.Sprint(c) != want || fmt.Sprint(list, again) != "[0 2] [0 2]" || fmt.Sprint(d, Used(g)) != "{false true [q] [] 2} [0 1]" {
			t.Errorf("%v, %v, %v, %v", c, list, again, d)
		}
		for i := range c.Skips[:cap(c.Skips)] {
			c.Skips[:cap(c.Skips)][i] = "-"
		}
		if fmt.Sprint(c.Looks) != "[y s]" {
			t.Errorf("the lists of a class share memory: %v", c.Looks)
		}
		for i := range c.Looks[:cap(c.Looks)] {
			c.Looks[:cap(c.Looks)][i] = "-"
		}
		for i := range list[:cap(list)] {
			list[:cap(list)][i] = 77
		}
		if fmt.Sprint(again, d.Skips) != "[0 2] [q]" {
			t.Errorf("results share memory: %v, %v", again, d.Skips)
		}
	}
	if Right(f); !reflect.DeepEqual(f, parsed(t, s)) || !reflect.DeepEqual(g, parsed(t, other)) {
		t.Errorf("a file was changed")
	}
	// The same File with another root is classified anew.
	f.Structs[2].Items = f.Structs[2].Items[:2]
	f.Types, f.Exprs = f.Types[:5], f.Exprs[:2]
	if c, err := Of(f); fmt.Sprint(c, Used(f)) != "{true true [] [] 1} [2]" || err != api.OK {
		t.Errorf("with another root: %v, %v", c, err)
	}
}
