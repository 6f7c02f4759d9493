package names

import (
	"fmt"
	"strings"
	"testing"

	"calliper/api"
	"calliper/parse"
)

func plain(f *parse.File) string {
	return fmt.Sprintf("%+v", *f)
}

// parsed is the file of a description that has one.
func parsed(t *testing.T, s string) *parse.File {
	t.Helper()
	f, at, err := parse.Parse(s)
	if err != api.OK {
		t.Fatalf("Parse(%.600q) = %v, %v", s, at, err)
	}
	return f
}

// checkNames checks what Check says of a description, and that it leaves the file as it
// is and keeps nothing of it.
func checkNames(t *testing.T, s, name string, err api.Errno) {
	t.Helper()
	f := parsed(t, s)
	before := plain(f)
	for range 2 {
		if n, e := Check(f); n != name || e != err {
			t.Errorf("Check(%.600q) = %q, %v; want %q, %v", s, n, e, name, err)
		}
	}
	if plain(f) != before {
		t.Errorf("Check changes %q", s)
	}
}

// unprintable are files that no description is parsed to.
func unprintable(t *testing.T) []*parse.File {
	f := func() *parse.File {
		return parsed(t, "const K = 1; struct S(p) { } struct T { n: u8; b: bytes[n + 1]; c: rest u8; }")
	}
	changed := func(change func(f *parse.File)) *parse.File {
		x := f()
		change(x)
		return x
	}
	long := "struct S { a: u8; a: bytes[1" + strings.Repeat("+1", api.MaxText/4) + "]; }"
	return []*parse.File{
		{Structs: []parse.Struct{{Name: ""}}},
		{Structs: []parse.Struct{{Name: "struct"}}},
		{Structs: []parse.Struct{{Name: "S", Items: []parse.Item{{Name: "a", Where: -1}}}}},
		{Consts: []parse.Const{{Name: "K"}, {Name: "1"}, {Name: "K"}}},
		{Consts: make([]parse.Const, api.MaxStructs+1)},
		{Types: []parse.Type{{Size: 1, Expr: -1, Inner: -1}}},
		changed(func(f *parse.File) { f.Structs[1].Items[0].Type = -1 }),
		changed(func(f *parse.File) { f.Structs[1].Items[0].Type = 4 }),
		changed(func(f *parse.File) { f.Structs[1].Items[1].Where = 3 }),
		changed(func(f *parse.File) { f.Exprs[2].Kids[0] = 2 }),
		changed(func(f *parse.File) { f.Exprs[0].Kind = parse.ExprKinds }),
		changed(func(f *parse.File) { f.Types[3].Inner = 3 }),
		changed(func(f *parse.File) { f.Types[0].Kind = parse.TypeKinds }),
		changed(func(f *parse.File) { f.Structs[1].Items[0].Der = parse.DerKinds }),
		changed(func(f *parse.File) { f.Structs[1].Name, f.Exprs = "S", nil }),
		parsed(t, long),
	}
}

// P9.1, P9.2: no file, and files that no description is parsed to, whatever is wrong
// with their names.
func TestNotPrintable(t *testing.T) {
	if name, err := Check(nil); name != "" || err != api.ErrNil {
		t.Errorf("Check(nil) = %q, %v", name, err)
	}
	for i, f := range unprintable(t) {
		if name, err := Check(f); name != "" || err != api.ErrForm {
			t.Errorf("%d: Check = %q, %v; want ErrForm", i, name, err)
		}
	}
	known := parse.Item{Name: "n", Where: -1}
	for i, f := range append(unprintable(t), nil) {
		for _, name := range []string{"S", "T", "K", "n", ""} {
			if at := Struct(f, name); at != -1 {
				t.Errorf("%d: Struct(%q) = %d", i, name, at)
			}
		}
		if at := Root(f); at != -1 {
			t.Errorf("%d: Root = %d", i, at)
		}
		if Known(f, known) {
			t.Errorf("%d: an item is known", i)
		}
	}
}

// P9.1: structs by their names, and the last one.
func TestStruct(t *testing.T) {
	for _, x := range []struct {
		s    string
		want map[string]int
		root int
	}{
		{"", map[string]int{"": -1, "S": -1}, -1},
		{"const S = 1;", map[string]int{"": -1, "S": -1}, -1},
		{"struct S { }", map[string]int{"": -1, "S": 0, "s": -1, "S ": -1, "struct": -1}, 0},
		{"const B = 1; struct A(p) { } const A = 2; struct B { x: u8; y: A(1); }", map[string]int{"A": 0, "B": 1, "p": -1, "x": -1}, 1},
		{"struct A { } struct B { a: C; } struct A { } struct C { } struct B { } struct A { }", map[string]int{"A": 0, "B": 1, "C": 3, "D": -1}, 5},
		{"struct u9 { } struct _ { }", map[string]int{"u9": 0, "_": 1, "u8": -1}, 1},
	} {
		f := parsed(t, x.s)
		before := plain(f)
		for name, want := range x.want {
			if at := Struct(f, name); at != want {
				t.Errorf("%q: Struct(%q) = %d; want %d", x.s, name, at, want)
			}
		}
		if at := Root(f); at != x.root {
			t.Errorf("%q: Root = %d; want %d", x.s, at, x.root)
		}
		if plain(f) != before {
			t.Errorf("Struct or Root changes %q", x.s)
		}
	}
	many := ""
	for i := range api.MaxStructs {
		many += fmt.Sprintf("struct S%d { } ", i)
	}
	f := parsed(t, many)
	if Struct(f, "S63") != 63 || Struct(f, "S64") != -1 || Root(f) != 63 {
		t.Errorf("of %d structs, S63 is %d, S64 is %d and the root is %d", api.MaxStructs, Struct(f, "S63"), Struct(f, "S64"), Root(f))
	}
}

// P9.1: fields by their names. Neither packs nor subs nor params are fields.
func TestField(t *testing.T) {
	f := parsed(t, "struct S { } struct T(p) { pack u8 { x: 3; y: 5; } y: u8; z: u8[1]; pack u8 { w: 8; } y: none; x: tail; T: u8; }")
	for name, want := range map[string]int{"x": 5, "y": 1, "z": 2, "w": -1, "p": -1, "T": 6, "S": -1, "": -1, "Y": -1} {
		if at := Field(f.Structs[1], name); at != want {
			t.Errorf("Field(T, %q) = %d; want %d", name, at, want)
		}
		if at := Field(f.Structs[0], name); at != -1 {
			t.Errorf("Field(S, %q) = %d", name, at)
		}
		if at := Field(parse.Struct{}, name); at != -1 {
			t.Errorf("Field of no struct, %q: %d", name, at)
		}
	}
}

// P9.1: fields of all kinds of types and derivations. Only a field that is an Int, and no
// checksum, is known.
func TestKnown(t *testing.T) {
	const types = "u8 ,u16be ,u16le ,u24be ,u24le ,u32be ,u32le ,u64be ,u64le ," +
		"bytes[1],zero[1],skip[1],tail,u8[1],T[1],rest u8,window[1] u8,at[1] u8,switch (1) { else: u8; },switch (1) { },T,T(1),none"
	const derived = ",= sizeof(a),= countof(a),= crc32(a..a),= adler32(a..a)"
	for _, typ := range strings.Split(types, ",") {
		for _, der := range strings.Split(derived, ",") {
			for _, where := range []string{"", " where 0", " where a"} {
				s := "struct T { } struct S { b: tail; a: " + typ + " " + der + where + "; c: u8; }"
				f := parsed(t, s)
				want := strings.HasSuffix(typ, " ") && !strings.Contains(der, "32")
				if got := Known(f, f.Structs[1].Items[1]); got != want {
					t.Errorf("%q: a is known: %v; want %v", s, got, want)
				}
			}
		}
	}
}

// P9.1: items that are no fields of the file.
func TestKnownOther(t *testing.T) {
	f := parsed(t, "struct S { a: u8; b: none; pack u8 { x: 8; } }")
	for _, x := range f.Structs[0].Items {
		if got := Known(f, x); got != (x.Name == "a") {
			t.Errorf("%v is known: %v", x, got)
		}
		if Known(nil, x) || Known(&parse.File{}, x) {
			t.Errorf("%v is known in no file", x)
		}
	}
	const most = int(^uint(0) >> 1)
	for _, at := range []int{-1, -2, 2, 3, most, -most - 1} {
		if x := (parse.Item{Name: "a", Type: at, Where: -1}); Known(f, x) {
			t.Errorf("%v is known", x)
		}
	}
	pack := f.Structs[0].Items[2]
	pack.Type = 0
	if Known(f, pack) {
		t.Errorf("a pack is known")
	}
}
