package show

import (
	"fmt"
	"math/rand"
	"strings"
	"testing"

	"calliper/api"
	"calliper/parse"
)

// maker makes a file by chance, and the texts of all that is in it.
type maker struct {
	*rand.Rand
	file         parse.File
	exprs, types []string
}

// made is a part of a file: its text, and its tokens as they may stand in a
// description that is not tidy.
type made struct {
	text, wild string
	at         int
}

func (m *maker) pick(list ...string) string {
	return list[m.Intn(len(list))]
}

func (m *maker) name() string {
	return m.pick("a", "b", "n", "S", "size", "u9", "U8", "_", "case1", "Switch", strings.Repeat("x", api.MaxWord))
}

// number is a number, and a spelling of it.
func (m *maker) number() (uint64, string) {
	n := m.Uint64() >> m.Intn(64)
	return n, fmt.Sprintf(m.pick("%d", "0%d", "0x%x", "0x%X", "0x00%x"), n)
}

func (m *maker) addExpr(x parse.Expr, text, wild string) made {
	m.file.Exprs = append(m.file.Exprs, x)
	m.exprs = append(m.exprs, text)
	if m.Intn(6) == 0 {
		wild = "( " + wild + " )"
	}
	return made{text, wild, len(m.exprs) - 1}
}

func (m *maker) addType(x parse.Type, text, wild string) made {
	m.file.Types = append(m.file.Types, x)
	m.types = append(m.types, text)
	return made{text, wild, len(m.types) - 1}
}

// expr makes an expression with parentheses around it where an operand needs them
// that is to have at least this level: 0 for what is no operand, and 9 for what a
// Not has. No level is below that of an expression that is no Bin.
func (m *maker) expr(least, deep int) made {
	kind := m.Intn(6)
	switch {
	case deep == 0 && kind%2 == 0:
		n, wild := m.number()
		return m.addExpr(parse.Expr{Kind: parse.Num, N: n}, fmt.Sprint(n), wild)
	case deep == 0:
		name := m.name()
		return m.addExpr(parse.Expr{Kind: parse.Name, Name: name}, name, name)
	case kind == 0:
		return m.expr(least, 0)
	case kind == 1:
		a := m.expr(9, deep-1)
		return m.addExpr(parse.Expr{Kind: parse.Not, Kids: []int{a.at}}, "!"+a.text, "! "+a.wild)
	}
	level := m.Intn(len(levels))
	op := m.pick(strings.Fields(levels[level])...)
	a := m.expr(level+1, deep-1)
	b := m.expr(level+2, deep-1)
	x := m.addExpr(parse.Expr{Kind: parse.Bin, Op: op, Kids: []int{a.at, b.at}}, a.text+" "+op+" "+b.text, a.wild+" "+op+" "+b.wild)
	if level+1 < least {
		x.text, x.wild = "("+m.exprs[x.at]+")", "( "+x.wild+" )"
	}
	return x
}

// element makes an integer or a Ref.
func (m *maker) element() made {
	x := parse.Type{Expr: -1, Inner: -1}
	if m.Intn(2) == 0 {
		i := m.Intn(9)
		word := strings.Fields("u8 u16be u16le u24be u24le u32be u32le u64be u64le")[i]
		x.Size, x.Little = []int{1, 2, 2, 3, 3, 4, 4, 8, 8}[i], strings.HasSuffix(word, "le")
		return m.addType(x, word, word)
	}
	x.Kind, x.Name = parse.Ref, m.name()
	text, wild := x.Name, x.Name
	for i := range m.Intn(4) {
		arg := m.expr(0, 2)
		x.Args = append(x.Args, arg.at)
		text += []string{"(", ", "}[min(i, 1)] + arg.text
		wild += []string{" ( ", " , "}[min(i, 1)] + arg.wild
	}
	if x.Args != nil {
		text, wild = text+")", wild+" )"
	}
	return m.addType(x, text, wild)
}

// boxed makes a type of a word, an expression in brackets, and maybe a type.
func (m *maker) boxed(kind parse.TypeKind, word string, inner bool, deep int) made {
	e := m.expr(0, 3)
	x := parse.Type{Kind: kind, Expr: e.at, Inner: -1}
	text, wild := word+"["+e.text+"]", word+" [ "+e.wild+" ]"
	if inner {
		t := m.typ(deep - 1)
		x.Inner, text, wild = t.at, text+" "+t.text, wild+" "+t.wild
	}
	return m.addType(x, text, wild)
}

func (m *maker) choice(deep int) made {
	e := m.expr(0, 3)
	x := parse.Type{Kind: parse.Switch, Expr: e.at, Inner: -1}
	text, wild := "switch ("+e.text+") {", "switch ( "+e.wild+" ) {"
	for range m.Intn(3) {
		n, spelled := m.number()
		t := m.typ(deep - 1)
		x.Cases = append(x.Cases, parse.Case{N: n, Type: t.at})
		text += fmt.Sprintf(" case %d: %s;", n, t.text)
		wild += " case " + spelled + " : " + t.wild + " ;"
	}
	if m.Intn(2) == 0 {
		t := m.typ(deep - 1)
		x.Inner, text, wild = t.at, text+" else: "+t.text+";", wild+" else : "+t.wild+" ;"
	}
	return m.addType(x, text+" }", wild+" }")
}

func (m *maker) typ(deep int) made {
	kind := m.Intn(12)
	if deep == 0 {
		kind = m.Intn(8)
	}
	switch kind {
	case 0, 1:
		return m.element()
	case 2:
		t := m.element()
		e := m.expr(0, 3)
		return m.addType(parse.Type{Kind: parse.Array, Expr: e.at, Inner: t.at}, t.text+"["+e.text+"]", t.wild+" [ "+e.wild+" ]")
	case 3:
		return m.boxed(parse.Bytes, "bytes", false, 0)
	case 4:
		return m.boxed(parse.Zero, "zero", false, 0)
	case 5:
		return m.boxed(parse.Skip, "skip", false, 0)
	case 6:
		return m.addType(parse.Type{Kind: parse.Tail, Expr: -1, Inner: -1}, "tail", "tail")
	case 7:
		return m.addType(parse.Type{Kind: parse.None, Expr: -1, Inner: -1}, "none", "none")
	case 8:
		return m.boxed(parse.Window, "window", true, deep)
	case 9:
		return m.boxed(parse.At, "at", true, deep)
	case 10:
		t := m.typ(deep - 1)
		return m.addType(parse.Type{Kind: parse.Rest, Expr: -1, Inner: t.at}, "rest "+t.text, "rest "+t.wild)
	}
	return m.choice(deep)
}

func (m *maker) pack() (parse.Item, string, string) {
	t := parse.Item{Type: -1, Where: -1, Size: []int{1, 2, 3, 4, 8}[m.Intn(5)]}
	t.Little = t.Size > 1 && m.Intn(2) == 0
	text := "pack u" + fmt.Sprint(8*t.Size) + map[bool]string{true: "le", false: "be"}[t.Little]
	if t.Size == 1 {
		text = "pack u8"
	}
	text += " {"
	wild := text
	for range 1 + m.Intn(3) {
		name := m.name()
		n, spelled := m.number()
		bits := int(min(n, 1048576))
		t.Subs = append(t.Subs, parse.Sub{Name: name, Bits: bits})
		text += fmt.Sprintf(" %s: %d;", name, bits)
		wild += " " + name + " : " + spelled + " ;"
	}
	return t, text + " }", wild + " }"
}

func (m *maker) field() (parse.Item, string, string) {
	t := m.typ(3)
	x := parse.Item{Name: m.name(), Type: t.at, Where: -1}
	text, wild := x.Name+": "+t.text, x.Name+" : "+t.wild
	a, b := m.name(), m.name()
	switch x.Der = parse.DerKind(m.Intn(int(parse.DerKinds))); x.Der {
	case parse.SizeOf:
		x.A, text, wild = a, text+" = sizeof("+a+")", wild+" = sizeof ( "+a+" )"
	case parse.CountOf:
		x.A, text, wild = a, text+" = countof("+a+")", wild+" = countof ( "+a+" )"
	case parse.Crc:
		x.A, x.B, text, wild = a, b, text+" = crc32("+a+".."+b+")", wild+" = crc32 ( "+a+" .. "+b+" )"
	case parse.Adler:
		x.A, x.B, text, wild = a, b, text+" = adler32("+a+".."+b+")", wild+" = adler32 ( "+a+" .. "+b+" )"
	}
	if m.Intn(2) == 0 {
		e := m.expr(0, 4)
		x.Where, text, wild = e.at, text+" where "+e.text, wild+" where "+e.wild
	}
	return x, text + ";", wild + " ;"
}

func (m *maker) structure() (string, string) {
	s := parse.Struct{Name: m.name()}
	for range m.Intn(3) {
		s.Params = append(s.Params, m.name())
	}
	text, wild := "struct "+s.Name, "struct "+s.Name
	if s.Params != nil {
		text += "(" + strings.Join(s.Params, ", ") + ")"
		wild += " ( " + strings.Join(s.Params, " , ") + " )"
	}
	text, wild = text+" {\n", wild+" {"
	for range m.Intn(4) {
		item := m.field
		if m.Intn(4) == 0 {
			item = m.pack
		}
		x, neat, spread := item()
		s.Items = append(s.Items, x)
		text, wild = text+"  "+neat+"\n", wild+" "+spread
	}
	m.file.Structs = append(m.file.Structs, s)
	return text + "}\n", wild + " }"
}

// whole makes the texts of a whole file: the tidy one, and the tokens of another
// description that has its consts and structs in any order.
func (m *maker) whole() (string, string) {
	consts, structs := "", ""
	var wild []string
	for range m.Intn(5) {
		if m.Intn(2) == 0 {
			text, tokens := m.structure()
			structs += text
			wild = append(wild, tokens)
			continue
		}
		name := m.name()
		n, spelled := m.number()
		m.file.Consts = append(m.file.Consts, parse.Const{Name: name, N: n})
		consts += fmt.Sprintf("const %s = %d;\n", name, n)
		wild = append(wild, "const "+name+" = "+spelled+" ;")
	}
	return consts + structs, strings.Join(wild, " ")
}

// spread writes tokens with all that may stand between them. Only two that are no
// Signs need something there.
func (m *maker) spread(tokens string) string {
	isWord := func(c byte) bool { return c > '/' && c < ':' || c > '@' && c < '[' || c > '^' && c < '{' }
	s := ""
	for _, token := range strings.Fields(tokens) {
		gap := m.pick("", "", "", " ", "  ", "\t", "\n", "\r\n", " // x\n", " //;\n\n")
		if gap == "" && s != "" && isWord(s[len(s)-1]) && isWord(token[0]) {
			gap = " "
		}
		s += gap + token
	}
	return s + m.pick("", " ", "\n", "//")
}

// P8.1 to P8.4: the texts of files by chance, of all that is in them, and of
// descriptions of them that are not tidy.
func TestMade(t *testing.T) {
	read, long := 0, 0
	for i := range int64(1500) {
		m := maker{Rand: rand.New(rand.NewSource(i))}
		text, tokens := m.whole()
		s := m.spread(tokens)
		if len(text) > api.MaxText || len(s) > api.MaxText {
			long++
			continue
		}
		read++
		f := parsed(t, s)
		if !Equal(f, &m.file) || !Equal(&m.file, f) || plain(f) != plain(&m.file) {
			t.Fatalf("Parse(%q) = %s; want %s", s, plain(f), plain(&m.file))
		}
		checkText(t, &m.file, text)
		checkTidy(t, s, text)
		checkTidy(t, text, text)
		if g := parsed(t, text); !Equal(f, g) {
			t.Errorf("%q is another file than %q", text, s)
		}
		if i < 200 {
			checkParts(t, &m.file, m.exprs, m.types)
		}
		if t.Failed() {
			return
		}
	}
	if read < 1000 {
		t.Errorf("%d files were read, and %d are too long", read, long)
	}
}

// P8.3, P8.4: descriptions that are as deep as they may be are tidied to such that
// are no deeper.
func TestTidyDeep(t *testing.T) {
	most := api.MaxDepth
	around := func(open, inside, end string, n int) string {
		return strings.Repeat(open, n) + inside + strings.Repeat(end, n)
	}
	for _, x := range [][2]string{
		{"u8[" + around("!", "n", "", most) + "]", "u8[" + around("!", "n", "", most) + "]"},
		{"u8[" + around("((", "n", "))", most/2) + "]", "u8[n]"},
		{"u8[" + around("!(", "n", ")", most/2) + "]", "u8[" + around("!", "n", "", most/2) + "]"},
		{"u8[" + around("(1-", "n", ")", most) + "]", "u8[" + around("1 - (", "1 - n", ")", most-1) + "]"},
		{"u8[" + around("1-(", "2-n", ")", most) + "]", "u8[" + around("1 - (", "2 - n", ")", most) + "]"},
		{"u8[" + around("!(1+", "n", ")", most/2) + "]", "u8[" + around("!(1 + ", "n", ")", most/2) + "]"},
		{around("rest\n", "u8[1]", "", most), around("rest ", "u8[1]", "", most)},
	} {
		s := "struct S{a:" + x[0] + ";}"
		checkTidy(t, s, field(x[1]))
		checkTidy(t, field(x[1]), field(x[1]))
		if !Equal(parsed(t, s), parsed(t, field(x[1]))) {
			t.Errorf("%q is another file than %q", x[1], s)
		}
	}
}
