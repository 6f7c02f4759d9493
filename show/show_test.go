package show

import (
	"fmt"
	"strings"
	"testing"

	"calliper/api"
	"calliper/lex"
	"calliper/parse"
)

// levels are the operators by their levels, from the lowest on.
var levels = []string{"||", "&&", "== != < <= > >=", "|", "&", "<< >>", "+ -", "* / %"}

func plain(f *parse.File) string {
	return fmt.Sprintf("%+v", *f)
}

// parsed is the file of a description that has one.
func parsed(t *testing.T, s string) *parse.File {
	t.Helper()
	f, at, err := parse.Parse(s)
	if err != api.OK {
		t.Fatalf("Parse(%.300q) = %v, %v", s, at, err)
	}
	return f
}

func checkTidy(t *testing.T, s, want string) {
	t.Helper()
	if text, at, err := Tidy(s); text != want || at != (lex.Pos{}) || err != api.OK {
		t.Errorf("Tidy(%.300q) = %.600q, %v, %v; want %.600q", s, text, at, err, want)
	}
}

func checkFault(t *testing.T, s string, at lex.Pos, err api.Errno) {
	t.Helper()
	if text, p, e := Tidy(s); text != "" || p != at || e != err {
		t.Errorf("Tidy(%.300q), %d bytes = %.300q, %v, %v; want %v, %v", s, len(s), text, p, e, at, err)
	}
}

// checkText checks that a file has this text, and that it is left as it is.
func checkText(t *testing.T, f *parse.File, want string) {
	t.Helper()
	before := plain(f)
	if text, err := Text(f); text != want || err != api.OK {
		t.Errorf("Text(%.300s) = %.600q, %v; want %.600q", before, text, err, want)
	}
	if after := plain(f); after != before {
		t.Errorf("Text changes %.300s to %.300s", before, after)
	}
}

// checkNone checks that neither a file nor any part of it has a text.
func checkNone(t *testing.T, f *parse.File) {
	t.Helper()
	if text, err := Text(f); text != "" || err != api.ErrForm {
		t.Errorf("Text(%.600s) = %.300q, %v; want ErrForm", plain(f), text, err)
	}
	for _, at := range []int{0, len(f.Exprs) - 1} {
		if text := Expr(f, at); text != "" {
			t.Errorf("Expr(%.600s, %d) = %.300q; want none", plain(f), at, text)
		}
	}
	for _, at := range []int{0, len(f.Types) - 1} {
		if text := Type(f, at); text != "" {
			t.Errorf("Type(%.600s, %d) = %.300q; want none", plain(f), at, text)
		}
	}
}

// checkParts checks the texts of all parts of a file, and of those beside them.
func checkParts(t *testing.T, f *parse.File, exprs, types []string) {
	t.Helper()
	if len(exprs) != len(f.Exprs) || len(types) != len(f.Types) {
		t.Fatalf("%.600s; want %q, %q", plain(f), exprs, types)
	}
	before := plain(f)
	for at, want := range exprs {
		if text := Expr(f, at); text != want {
			t.Errorf("Expr(%.300s, %d) = %q; want %q", before, at, text, want)
		}
	}
	for at, want := range types {
		if text := Type(f, at); text != want {
			t.Errorf("Type(%.300s, %d) = %q; want %q", before, at, text, want)
		}
	}
	const most = int(^uint(0) >> 1)
	for _, at := range []int{-1, -2, len(exprs), len(exprs) + 1, most, -most - 1} {
		if text := Expr(f, at); text != "" {
			t.Errorf("Expr(%.300s, %d) = %q; want none", before, at, text)
		}
	}
	for _, at := range []int{-1, -2, len(types), len(types) + 1, most, -most - 1} {
		if text := Type(f, at); text != "" {
			t.Errorf("Type(%.300s, %d) = %q; want none", before, at, text)
		}
	}
	if after := plain(f); after != before {
		t.Errorf("Expr or Type changes %.300s to %.300s", before, after)
	}
}

// lines is a text of these lines.
func lines(l ...string) string {
	return strings.Join(l, "\n") + "\n"
}

// field is the text of a struct with one field of this type.
func field(text string) string {
	return lines("struct S {", "  a: "+text+";", "}")
}

// texts are descriptions, and what they are tidied to.
var texts = []struct{ s, want string }{
	{"", ""},
	{" // nothing", ""},
	{"const K=16;", lines("const K = 16;")},
	{"const K=0;const K=0xffffffffffffffff;const _=007;", lines("const K = 0;", "const K = 18446744073709551615;", "const _ = 7;")},
	{"struct S{}", lines("struct S {", "}")},
	{"struct S(p){}struct T(p,q,p){}", lines("struct S(p) {", "}", "struct T(p, q, p) {", "}")},
	{"struct B{}const L=0x1F;struct A{}const K=1;", lines("const L = 31;", "const K = 1;", "struct B {", "}", "struct A {", "}")},
	{"struct S{pack u8{x:8;}}", lines("struct S {", "  pack u8 { x: 8; }", "}")},
	{"struct S{pack u24le{x:0x3;y:0;x:1048577;}a:u8;}", lines("struct S {", "  pack u24le { x: 3; y: 0; x: 1048576; }", "  a: u8;", "}")},
	{"struct S(p){a:u8;b:none;pack u64be{x:64;}}", lines("struct S(p) {", "  a: u8;", "  b: none;", "  pack u64be { x: 64; }", "}")},
	{"struct S{a:u8=sizeof(b)where a;}", field("u8 = sizeof(b) where a")},
	{"struct S{a:u8=countof(b)where(a);}", field("u8 = countof(b) where a")},
	{"struct S{a:u32be=crc32(b..c);}", field("u32be = crc32(b..c)")},
	{"struct S{a:u32be=crc32(b .. b)where!a;}", field("u32be = crc32(b..b) where !a")},
	{"struct S{a:tail=adler32(b..c);}", field("tail = adler32(b..c)")},
	{"struct S{a:u8 where a>1&&(a<5);}", field("u8 where a > 1 && a < 5")},
	{"struct S{n:u8 where (n+1)*2<0x10;}", lines("struct S {", "  n: u8 where (n + 1) * 2 < 16;", "}")},
}

// P8.1, P8.3: the texts of whole files.
func TestFiles(t *testing.T) {
	for _, x := range texts {
		checkTidy(t, x.s, x.want)
		checkTidy(t, x.want, x.want)
		checkText(t, parsed(t, x.s), x.want)
		checkText(t, parsed(t, x.want), x.want)
	}
}

// types are the texts of types and of what is in them, in the order of a File.
var types = []struct {
	s, want      string
	exprs, types []string
}{
	{"T", "T", nil, []string{"T"}},
	{"T(1)", "T(1)", []string{"1"}, []string{"T(1)"}},
	{"T(1,(n),!n+2)", "T(1, n, !n + 2)", []string{"1", "n", "n", "!n", "2", "!n + 2"}, []string{"T(1, n, !n + 2)"}},
	{"T[n]", "T[n]", []string{"n"}, []string{"T", "T[n]"}},
	{"T(1,2)[3]", "T(1, 2)[3]", []string{"1", "2", "3"}, []string{"T(1, 2)", "T(1, 2)[3]"}},
	{"u8[n+1]", "u8[n + 1]", []string{"n", "1", "n + 1"}, []string{"u8", "u8[n + 1]"}},
	{"bytes[n]", "bytes[n]", []string{"n"}, []string{"bytes[n]"}},
	{"zero[(n)]", "zero[n]", []string{"n"}, []string{"zero[n]"}},
	{"skip[0x10]", "skip[16]", []string{"16"}, []string{"skip[16]"}},
	{"window[n]u8", "window[n] u8", []string{"n"}, []string{"u8", "window[n] u8"}},
	{"at[n]T(m)", "at[n] T(m)", []string{"n", "m"}, []string{"T(m)", "at[n] T(m)"}},
	{"window[n]at[m]rest rest u8[k]", "window[n] at[m] rest rest u8[k]", []string{"n", "m", "k"}, []string{"u8", "u8[k]", "rest u8[k]", "rest rest u8[k]", "at[m] rest rest u8[k]", "window[n] at[m] rest rest u8[k]"}},
	{"rest T", "rest T", nil, []string{"T", "rest T"}},
	{"tail", "tail", nil, []string{"tail"}},
	{"none", "none", nil, []string{"none"}},
	{"switch(n){}", "switch (n) { }", []string{"n"}, []string{"switch (n) { }"}},
	{"switch((1+2)){case 0x1:u8;}", "switch (1 + 2) { case 1: u8; }", []string{"1", "2", "1 + 2"}, []string{"u8", "switch (1 + 2) { case 1: u8; }"}},
	{"switch(n){case 2:none;case 1:bytes[2];case 2:T;}", "switch (n) { case 2: none; case 1: bytes[2]; case 2: T; }", []string{"n", "2"}, []string{"none", "bytes[2]", "T", "switch (n) { case 2: none; case 1: bytes[2]; case 2: T; }"}},
	{"switch(n){else:tail;}", "switch (n) { else: tail; }", []string{"n"}, []string{"tail", "switch (n) { else: tail; }"}},
	{"switch(n){case 0:switch(m){else:u8;};else:rest u8;}", "switch (n) { case 0: switch (m) { else: u8; }; else: rest u8; }", []string{"n", "m"}, []string{"u8", "switch (m) { else: u8; }", "u8", "rest u8", "switch (n) { case 0: switch (m) { else: u8; }; else: rest u8; }"}},
}

// P8.2: the texts of types, with all that is in them.
func TestTypes(t *testing.T) {
	for _, x := range types {
		f := parsed(t, "struct S{a:"+x.s+";}")
		checkText(t, f, field(x.want))
		checkParts(t, f, x.exprs, x.types)
	}
	for _, word := range strings.Fields("u8 u16be u16le u24be u24le u32be u32le u64be u64le") {
		f := parsed(t, "struct S{a:"+word+";b:"+word+"[2];pack "+word+"{x:1;}}")
		checkText(t, f, lines("struct S {", "  a: "+word+";", "  b: "+word+"[2];", "  pack "+word+" { x: 1; }", "}"))
		checkParts(t, f, []string{"2"}, []string{word, word, word + "[2]"})
	}
	f := parsed(t, "struct S { a: bytes[n] where n; } struct T { b: zero[m]; }")
	checkParts(t, f, []string{"n", "n", "m"}, []string{"bytes[n]", "zero[m]"})
	checkParts(t, &parse.File{}, nil, nil)
	if Expr(nil, 0) != "" || Expr(nil, -1) != "" || Type(nil, 0) != "" || Type(nil, -1) != "" {
		t.Errorf("no file has parts")
	}
}

// P8.2: the parentheses of every two operators.
func TestParentheses(t *testing.T) {
	for i, some := range levels {
		for j, others := range levels {
			for _, x := range strings.Fields(some) {
				for _, y := range strings.Fields(others) {
					checkPair(t, x, y, i, j)
				}
			}
		}
	}
}

// checkPair checks the texts of a Bin with another one as its left operand, as its
// right operand, and as both, and of a Not of these. The levels are i and j.
func checkPair(t *testing.T, x, y string, i, j int) {
	t.Helper()
	inner := "b " + y + " c"
	left, right := inner, inner
	if j < i {
		left = "(" + inner + ")"
	}
	if j <= i {
		right = "(" + inner + ")"
	}
	for _, pair := range [][2]string{
		{"(" + inner + ")" + x + "a", left + " " + x + " a"},
		{"a" + x + "(" + inner + ")", "a " + x + " " + right},
		{"(" + inner + ")" + x + "(" + inner + ")", left + " " + x + " " + right},
		{"!(" + inner + ")" + x + "!(" + inner + ")", "!(" + inner + ") " + x + " !(" + inner + ")"},
		{"(!b)" + x + "(!!c)", "!b " + x + " !!c"},
		{"!((" + inner + ")" + x + "1)", "!(" + left + " " + x + " 1)"},
		{"!(1" + x + "(" + inner + "))", "!(1 " + x + " " + right + ")"},
	} {
		f := parsed(t, field("bytes["+pair[0]+"]"))
		if text := Expr(f, len(f.Exprs)-1); text != pair[1] {
			t.Errorf("the text of %q is %q; want %q", pair[0], text, pair[1])
		}
		checkText(t, f, field("bytes["+pair[1]+"]"))
	}
}

// P8.2: a Not, and what stands beside it.
func TestNot(t *testing.T) {
	for _, x := range []struct {
		s     string
		exprs []string
	}{
		{"n", []string{"n"}},
		{"((n))", []string{"n"}},
		{"0xFFFFFFFFFFFFFFFF", []string{"18446744073709551615"}},
		{"!n", []string{"n", "!n"}},
		{"!(7)", []string{"7", "!7"}},
		{"!!(!n)", []string{"n", "!n", "!!n", "!!!n"}},
		{"!(a&b)", []string{"a", "b", "a & b", "!(a & b)"}},
		{"!(!(a*b))", []string{"a", "b", "a * b", "!(a * b)", "!!(a * b)"}},
		{"(!a)*b", []string{"a", "!a", "b", "!a * b"}},
		{"a*(!b)", []string{"a", "b", "!b", "a * !b"}},
		{"a-b-c", []string{"a", "b", "a - b", "c", "a - b - c"}},
		{"a-(b-c)", []string{"a", "b", "c", "b - c", "a - (b - c)"}},
		{"(a-(b-c))-d", []string{"a", "b", "c", "b - c", "a - (b - c)", "d", "a - (b - c) - d"}},
		{"(a||b)&&(c)", []string{"a", "b", "a || b", "c", "(a || b) && c"}},
		{"a||(b&&c)", []string{"a", "b", "c", "b && c", "a || b && c"}},
	} {
		last := x.exprs[len(x.exprs)-1]
		f := parsed(t, "struct S{a:bytes["+x.s+"];}")
		checkParts(t, f, x.exprs, []string{"bytes[" + last + "]"})
		checkText(t, f, field("bytes["+last+"]"))
		checkTidy(t, "struct S{a:u8 where "+x.s+";}", field("u8 where "+last))
	}
}

// P8.3: the errors of layers 6 and 7, with their positions.
func TestTidyErrors(t *testing.T) {
	most := api.MaxDepth
	checkFault(t, "x", lex.Pos{Line: 1, Col: 1}, api.ErrForm)
	checkFault(t, "struct S {\n  a u8;\n}", lex.Pos{Line: 2, Col: 5}, api.ErrForm)
	checkFault(t, "struct S {}\n@", lex.Pos{Line: 2, Col: 1}, api.ErrForm)
	checkFault(t, "struct S { a: u8[]; }", lex.Pos{Line: 1, Col: 18}, api.ErrForm)
	checkFault(t, "struct S { pack u8 { } }", lex.Pos{Line: 1, Col: 22}, api.ErrForm)
	checkFault(t, "struct B {} const L = 0X1;", lex.Pos{Line: 1, Col: 23}, api.ErrForm)
	checkFault(t, "const K = 18446744073709551616;", lex.Pos{Line: 1, Col: 11}, api.ErrNum)
	checkFault(t, "\n struct "+strings.Repeat("S", api.MaxWord+1)+"{}", lex.Pos{Line: 2, Col: 9}, api.ErrLong)
	checkFault(t, "struct S { a: u8["+strings.Repeat("(", most+1)+"1", lex.Pos{Line: 1, Col: 19 + most}, api.ErrDeep)
	checkFault(t, strings.Repeat("struct S{}", api.MaxStructs+1), lex.Pos{Line: 1, Col: 1 + 10*api.MaxStructs}, api.ErrFull)
	checkFault(t, "struct S{}"+strings.Repeat(" ", api.MaxText-9), lex.Pos{Line: 1, Col: 1}, api.ErrLong)
	checkFault(t, strings.Repeat("@", api.MaxText+1), lex.Pos{Line: 1, Col: 1}, api.ErrLong)
	checkTidy(t, "struct S{}"+strings.Repeat(" ", api.MaxText-10), lines("struct S {", "}"))
	checkTidy(t, "struct S { a: u8["+strings.Repeat("(", most)+"1"+strings.Repeat(")", most)+"]; }", field("u8[1]"))
}

// wide is a text of so many bytes.
func wide(size int) string {
	left := size - len(field("bytes[n]"))
	return field("bytes[" + strings.Repeat("1 + ", left/4) + "n" + strings.Repeat("x", left%4) + "]")
}

// P8.1, P8.2, P8.3: texts of the greatest length, and of one byte more.
func TestLong(t *testing.T) {
	short := func(text string) string { return strings.ReplaceAll(text, " + ", "+") }
	longest := wide(api.MaxText)
	if len(longest) != api.MaxText {
		t.Fatalf("%d bytes; want %d", len(longest), api.MaxText)
	}
	checkTidy(t, longest, longest)
	checkTidy(t, short(longest), longest)
	f := parsed(t, longest)
	checkText(t, f, longest)
	if text := Type(f, 0); field(text) != longest {
		t.Errorf("the type of the longest text is %.300q", text)
	}
	if text := Expr(f, len(f.Exprs)-1); field("bytes["+text+"]") != longest {
		t.Errorf("the expression of the longest text is %.300q", text)
	}
	for _, size := range []int{api.MaxText + 1, api.MaxText + 2, api.MaxText + 5, api.MaxText + 1000} {
		s := short(wide(size))
		checkFault(t, s, lex.Pos{Line: 1, Col: 1}, api.ErrLong)
		checkNone(t, parsed(t, s))
	}
}

// P8.3: texts that are too long, of descriptions that are not; and that what is
// wrong with a description is told ahead of it.
func TestLonger(t *testing.T) {
	for _, x := range []struct{ before, member, after string }{
		{"struct S{a:bytes[n", "+n", "];}"},
		{"struct S{a:bytes[n", "*(n+n)", "];}"},
		{"struct S{a:u8 where n", "||n", ";}"},
	} {
		n := (api.MaxText - len(x.before+x.after)) / len(x.member)
		s := x.before + strings.Repeat(x.member, n) + x.after
		checkFault(t, s, lex.Pos{Line: 1, Col: 1}, api.ErrLong)
		checkNone(t, parsed(t, s))
		checkFault(t, s+"}", lex.Pos{Line: 1, Col: len(s) + 1}, api.ErrForm)
	}
}

// P8.1: a nil file, and one of nothing.
func TestTextNil(t *testing.T) {
	if text, err := Text(nil); text != "" || err != api.ErrNil {
		t.Errorf("Text(nil) = %q, %v", text, err)
	}
	checkText(t, &parse.File{}, "")
}

// The chapter's example.
func TestExample(t *testing.T) {
	checkTidy(t, "struct S{n:u8 where (n+1)*2<0x10;}", "struct S {\n  n: u8 where (n + 1) * 2 < 16;\n}\n")
}
