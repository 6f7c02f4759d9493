package canon

import (
	"fmt"
	"math"
	"strings"
	"testing"

	"calliper/api"
	"calliper/parse"
	"calliper/sizes"
)

func parsed(t *testing.T, s string) *parse.File {
	t.Helper()
	f, at, err := parse.Parse(s)
	if err != api.OK {
		t.Fatalf("Parse(%q): %v, %v", s, at, err)
	}
	return f
}

// checkFile checks what Right says of a file, and that Of and Used tell of no file that
// is not valid.
func checkFile(t *testing.T, s string, f *parse.File, name string, err api.Errno) {
	t.Helper()
	if got, e := Right(f); got != name || e != err {
		t.Errorf("Right of %s: %q, %v; want %q, %v", s, got, e, name, err)
	}
	c, e := Of(f)
	if e != err || err != api.OK && fmt.Sprint(c) != "{false false [] [] 0}" {
		t.Errorf("Of of %s: %v, %v; want %v", s, c, e, err)
	}
	if list := Used(f); (len(list) > 0) != (err == api.OK) {
		t.Errorf("Used of %s: %v", s, list)
	}
}

func checkRight(t *testing.T, s, name string, err api.Errno) {
	t.Helper()
	checkFile(t, s, parsed(t, s), name, err)
}

// chain makes structs each of which refers to the one before it in the given form, from
// name0 with the depth 1 on.
func chain(name, form string, n int) string {
	s := "struct " + name + "0 { a: u8; } "
	for i := 1; i < n; i++ {
		s += fmt.Sprintf("struct %s%d { a: u8; b: %s; } ", name, i, fmt.Sprintf(form, fmt.Sprint(name, i-1)))
	}
	return s
}

// refForms are the ways in which a type contains a Ref to a struct.
var refForms = []string{
	"%s", "%s[2]", "%s[0]", "%s[a]", "rest %s", "rest %s[2]", "window[2] %s", "window[0] %s", "at[1] %s", "at[a] rest %s", "window[9] at[3] window[9] %s",
	"switch (a) { case 1: %s; }", "switch (a) { else: %s; }", "switch (a) { case 1: u8; case 2: %s; else: u8; }", "switch (a) { case 1: u8; case 2: u8; else: %s; }",
	"switch (a) { case 1: none; else: window[2] rest switch (1) { case 5: %s; }; }", "rest switch (a) { case 1: %s; else: u8; }",
}

// P13.1: the depths on both sides of the greatest, in every form.
func TestDeep(t *testing.T) {
	most := api.MaxDepth
	for _, form := range refForms {
		checkRight(t, chain("A", form, 2), "", api.OK)
		checkRight(t, chain("A", form, most), "", api.OK)
		checkRight(t, chain("A", form, most+1), fmt.Sprint("A", most), api.ErrDeep)
		checkRight(t, chain("A", form, api.MaxStructs), fmt.Sprint("A", most), api.ErrDeep)
		for _, n := range []int{1, 2, 3, most} {
			if c, err := Of(parsed(t, chain("A", form, n))); c.Depth != n || err != api.OK {
				t.Errorf("%s: a chain of %d has the depth %d, %v", form, n, c.Depth, err)
			}
		}
	}
}

// P13.1: a Ref with args is one, too; what its args name is none.
func TestArgs(t *testing.T) {
	s := "struct A0(p) { a: bytes[p]; } "
	for i := 1; i <= api.MaxDepth; i++ {
		s += fmt.Sprintf("struct A%d(p) { a: u8; b: A%d(a + p * 2); } ", i, i-1)
	}
	checkRight(t, s+"struct S { }", "A32", api.ErrDeep)
	s = s[:strings.Index(s, "struct A32")]
	checkRight(t, s+"struct S { }", "", api.OK)
	checkRight(t, s+"struct S { a: A31(7); }", "S", api.ErrDeep)
	checkRight(t, s+"struct S { a: A30(7); A31: u8; b: A30(A31); }", "", api.OK)
	checkRight(t, s+"struct S { A31: u8 where A31 < 9; b: bytes[A31]; }", "", api.OK)
}

// P13.1: how many structs, types and fields there are makes no struct deep.
func TestBroad(t *testing.T) {
	s := "struct T { x: u8; } "
	for i := range api.MaxStructs - 1 {
		s += fmt.Sprintf("struct A%d { a: T; b: rest T; } ", i)
	}
	checkRight(t, s, "", api.OK)
	s = "struct T { x: u8; } struct S { "
	for i := range api.MaxItems {
		s += fmt.Sprintf("a%d: T[2]; ", i)
	}
	checkRight(t, s+"}", "", api.OK)
	checkRight(t, "struct T { x: u8; } struct S { a: "+strings.Repeat("window[1] ", api.MaxDepth)+"T; }", "", api.OK)
	checkRight(t, "struct S { a: "+strings.Repeat("rest ", api.MaxDepth)+"u8; }", "a", api.ErrEmpty)
}

// P13.1: of several structs that are too deep the first one, whichever the root uses, and
// however deep it is.
func TestFirstDeep(t *testing.T) {
	most := api.MaxDepth
	a, b := chain("A", "%s", most), chain("B", "rest %s", most-4)
	checkRight(t, a+b+"struct S { }", "", api.OK)
	checkRight(t, a+"struct S { a: A31; }", "S", api.ErrDeep)
	checkRight(t, a+"struct X { a: u8; b: u8; c: A31; } struct S { x: u8; }", "X", api.ErrDeep)
	checkRight(t, a+"struct X { a: u8; b: A31; c: A0; } struct Y { a: A31; } struct S { a: Y; }", "X", api.ErrDeep)
	checkRight(t, a+"struct Z { a: A30; } struct Y { a: Z; } struct X { a: A31; } struct S { a: Y; }", "Y", api.ErrDeep)
	checkRight(t, b+a+"struct X { a: B27; } struct Y { a: X; b: A30; } struct Z { a: B27; b: Y; } struct S { }", "Z", api.ErrDeep)
	// The greatest depth counts, wherever its struct stands among the others.
	for _, x := range []string{"a: A0; b: A31;", "a: A31; b: A0;", "a: A0; b: A31; c: A1;", "a: switch (1) { case 1: A0; case 2: A31; else: A1; };", "a: switch (1) { case 1: A31; else: u8; }; b: A2;"} {
		checkRight(t, a+"struct X { "+x+" } struct S { }", "X", api.ErrDeep)
		checkRight(t, a+"struct X { "+strings.ReplaceAll(x, "A31", "A30")+" } struct S { }", "", api.OK)
	}
}

// P13.1: what layer 12's Empty returns comes first.
func TestEmptyFirst(t *testing.T) {
	deep := chain("A", "%s", api.MaxDepth+1)
	checkRight(t, deep+"struct S { }", "A32", api.ErrDeep)
	for _, x := range []struct {
		s, name string
		err     api.Errno
	}{
		{"struct S { x: rest none; }", "x", api.ErrEmpty},
		{"struct S { x: u8; y: window[x] rest bytes[x]; }", "y", api.ErrEmpty},
		{"struct T { x: rest tail; y: rest none; } struct S { a: u8; }", "x", api.ErrEmpty},
		{"struct T { } struct S { t: T[3]; }", "t", api.ErrEmpty},
		{"struct S { x: rest none; y: bytes[n]; }", "n", api.ErrNone},
		{"struct S { x: T; }", "T", api.ErrNone},
		{"struct S { x: S; }", "S", api.ErrNone},
		{"struct S { x: T; } struct T { }", "T", api.ErrNone},
		{"struct S { x: u8; x: u8; }", "x", api.ErrThere},
		{"struct A32 { }", "A32", api.ErrThere},
		{"struct S(p) { }", "S", api.ErrArg},
		{"struct S { pack u8 { x: 3; y: 4; } }", "x", api.ErrArg},
		{"struct S { n: u8; s: switch (n) { case 1: none; case 1: tail; }; }", "s", api.ErrThere},
		{"struct S { k: u8 = sizeof(b); b: skip[k]; }", "b", api.ErrState},
		{"const A = 1; const A = 2;", "A", api.ErrThere},
	} {
		checkRight(t, deep+x.s, x.name, x.err)
		if x.name != "A32" {
			checkRight(t, x.s, x.name, x.err)
		}
	}
}

// P13.1 and P13.2: no File, and Files that no text is parsed as, or that have no struct.
func TestNoFile(t *testing.T) {
	checkFile(t, "nil", nil, "", api.ErrNil)
	checkFile(t, "{}", &parse.File{}, "", api.ErrNone)
	checkRight(t, "", "", api.ErrNone)
	checkRight(t, "const K = 1;", "", api.ErrNone)
	const text = "const K = 3; struct T(p) { a: bytes[p]; b: u8; } struct S { n: u8; pack u8 { x: 3; y: 5; } a: T(K)[n]; b: rest switch (n) { case 1: u8; else: u16be; }; }"
	checkRight(t, text, "", api.OK)
	for i, spoil := range spoilers() {
		f := parsed(t, text)
		spoil(f)
		if name, err := sizes.Empty(f); name != "" || err != api.ErrForm {
			t.Fatalf("spoiler %d leaves %q, %v", i, name, err)
		}
		checkFile(t, fmt.Sprint("spoiler ", i), f, "", api.ErrForm)
	}
}

// spoilers make the File of the test above one that no text is parsed as: with types that
// are not there, or are parts of themselves, with items that are neither a field nor a
// pack, and the like.
func spoilers() []func(*parse.File) {
	list := []func(*parse.File){
		func(f *parse.File) { f.Structs[0].Name = "" },
		func(f *parse.File) { f.Structs[1].Items[1].Subs = nil },
		func(f *parse.File) { f.Structs[1].Items[1].Type = 0 },
		func(f *parse.File) { f.Types[2].Name = "bytes" },
		func(f *parse.File) { f.Types = nil },
		func(f *parse.File) { f.Types = f.Types[:4] },
		func(f *parse.File) { f.Exprs = nil },
		func(f *parse.File) { f.Structs = f.Structs[:1] },
		func(f *parse.File) { f.Structs = append(f.Structs, f.Structs...) },
		func(f *parse.File) { f.Structs = make([]parse.Struct, 70000) },
	}
	for _, n := range []int{math.MinInt, -2, -1, 0, 3, 7, 8, 9, math.MaxInt} {
		for at := range 9 {
			list = append(list, func(f *parse.File) { set(&f.Types[at].Inner, n) })
		}
		list = append(list,
			func(f *parse.File) { set(&f.Structs[1].Items[2].Type, n) },
			func(f *parse.File) { set(&f.Structs[1].Items[3].Type, n) },
			func(f *parse.File) { set(&f.Types[7].Cases[0].Type, n) })
	}
	return list
}

// set changes a number to another one, or, if that is no change, to one that is none.
func set(place *int, n int) {
	if *place == n {
		n = -9
	}
	*place = n
}
