package parse

import (
	"fmt"
	"math/rand"
	"strings"
	"testing"

	"calliper/api"
	"calliper/lex"
)

// The words of the chapter, as it lists them.
const (
	allIntegers  = "u8 u16be u16le u24be u24le u32be u32le u64be u64le"
	allOthers    = "const struct pack where sizeof countof crc32 adler32 bytes zero skip window at rest tail none switch case else"
	allOperators = "|| && == != < <= > >= | & << >> + - * / %"
)

// levels are the operators by their levels, from the lowest on.
var levels = []string{"||", "&&", "== != < <= > >=", "|", "&", "<< >>", "+ -", "* / %"}

// lexed are the tokens of a text that has some.
func lexed(t *testing.T, s string) []lex.Token {
	t.Helper()
	l, _, err := lex.Lex(s)
	if err != api.OK {
		t.Fatalf("Lex(%.80q) = %v", s, err)
	}
	return l
}

func checkFault(t *testing.T, s string, at lex.Pos, err api.Errno) {
	t.Helper()
	f, p, e := Parse(s)
	if p != at || e != err || (f == nil) != (err != api.OK) {
		t.Errorf("Parse(%.300q), %d bytes = %.40v, %v, %v; want %v, %v", s, len(s), f, p, e, at, err)
	}
}

func plain(f *File) string {
	return fmt.Sprintf("%+v", *f)
}

func checkFile(t *testing.T, s string, want File) {
	t.Helper()
	f, p, err := Parse(s)
	if f == nil || p != (lex.Pos{}) || err != api.OK {
		t.Errorf("Parse(%.300q) = %v, %v", s, p, err)
	} else if plain(f) != plain(&want) {
		t.Errorf("Parse(%.300q) = %.600s; want %.600s", s, plain(f), plain(&want))
	}
}

// body is a struct with one field of this type.
func body(text string) string {
	return "struct S { a: " + text + "; }"
}

// typed is the file of a body.
func typed(types []Type, exprs []Expr) File {
	x := Item{Name: "a", Type: len(types) - 1, Where: -1}
	return File{Structs: []Struct{{Name: "S", Items: []Item{x}}}, Types: types, Exprs: exprs}
}

func integer(size int, little bool) Type {
	return Type{Kind: Int, Size: size, Little: little, Expr: -1, Inner: -1}
}

// P7.1: the descriptions that are read, and the files that they are.
func TestParseFile(t *testing.T) {
	checkFile(t, "", File{})
	checkFile(t, " // nothing\n", File{})
	checkFile(t, "const K = 16; const L = 0xffffffffffffffff; const K = 0;", File{Consts: []Const{{"K", 16}, {"L", 1<<64 - 1}, {"K", 0}}})
	checkFile(t, "struct S { } struct T (p) { } struct U(q, q, s) {}", File{Structs: []Struct{{Name: "S"}, {Name: "T", Params: []string{"p"}}, {Name: "U", Params: []string{"q", "q", "s"}}}})
	checkFile(t, "struct S { } const K = 1; struct S { } const L = 2;", File{Consts: []Const{{"K", 1}, {"L", 2}}, Structs: []Struct{{Name: "S"}, {Name: "S"}}})
	packs := []Item{
		{Type: -1, Where: -1, Size: 1, Subs: []Sub{{"x", 3}, {"y", 0}}},
		{Type: -1, Where: -1, Size: 8, Little: true, Subs: []Sub{{"x", 1048575}}},
		{Type: -1, Where: -1, Size: 3, Subs: []Sub{{"z", 1048576}, {"z", 1048576}, {"z", 1048576}}},
	}
	checkFile(t, "struct S { pack u8 { x: 3; y: 0; } pack u64le { x: 1048575; } pack u24be { z: 1048576; z: 1048577; z: 18446744073709551615; } }", File{Structs: []Struct{{Name: "S", Items: packs}}})
}

// P7.1: what the types are made of.
func TestParseTypes(t *testing.T) {
	name := func(name string) Expr { return Expr{Kind: Name, Name: name} }
	none := Type{Kind: None, Expr: -1, Inner: -1}
	for i, word := range strings.Fields(allIntegers) {
		size := []int{1, 2, 2, 3, 3, 4, 4, 8, 8}[i]
		checkFile(t, body(word), typed([]Type{integer(size, strings.HasSuffix(word, "le"))}, nil))
	}
	checkFile(t, body("bytes[n]"), typed([]Type{{Kind: Bytes, Expr: 0, Inner: -1}}, []Expr{name("n")}))
	checkFile(t, body("zero[n]"), typed([]Type{{Kind: Zero, Expr: 0, Inner: -1}}, []Expr{name("n")}))
	checkFile(t, body("skip[n]"), typed([]Type{{Kind: Skip, Expr: 0, Inner: -1}}, []Expr{name("n")}))
	checkFile(t, body("tail"), typed([]Type{{Kind: Tail, Expr: -1, Inner: -1}}, nil))
	checkFile(t, body("none"), typed([]Type{none}, nil))
	checkFile(t, body("rest none"), typed([]Type{none, {Kind: Rest, Expr: -1, Inner: 0}}, nil))
	checkFile(t, body("u16le[n]"), typed([]Type{integer(2, true), {Kind: Array, Expr: 0, Inner: 0}}, []Expr{name("n")}))
	checkFile(t, body("T"), typed([]Type{{Kind: Ref, Name: "T", Expr: -1, Inner: -1}}, nil))
	checkFile(t, body("T(m, n)[k]"), typed([]Type{{Kind: Ref, Name: "T", Args: []int{0, 1}, Expr: -1, Inner: -1}, {Kind: Array, Expr: 2, Inner: 0}}, []Expr{name("m"), name("n"), name("k")}))
	checkFile(t, body("T[k]"), typed([]Type{{Kind: Ref, Name: "T", Expr: -1, Inner: -1}, {Kind: Array, Expr: 0, Inner: 0}}, []Expr{name("k")}))
	checkFile(t, body("window[n] at[k] none"), typed([]Type{none, {Kind: At, Expr: 1, Inner: 0}, {Kind: Window, Expr: 0, Inner: 1}}, []Expr{name("n"), name("k")}))
	checkFile(t, body("switch (n) { }"), typed([]Type{{Kind: Switch, Expr: 0, Inner: -1}}, []Expr{name("n")}))
	checkFile(t, body("switch (n) { case 7: none; case 0x7: u8; }"), typed([]Type{none, integer(1, false), {Kind: Switch, Expr: 0, Inner: -1, Cases: []Case{{7, 0}, {7, 1}}}}, []Expr{name("n")}))
	checkFile(t, body("switch (n) { else: bytes[m]; }"), typed([]Type{{Kind: Bytes, Expr: 1, Inner: -1}, {Kind: Switch, Expr: 0, Inner: 0}}, []Expr{name("n"), name("m")}))
}

// P7.1: what the fields are made of.
func TestParseFields(t *testing.T) {
	names := []Expr{{Kind: Name, Name: "n"}, {Kind: Name, Name: "m"}}
	for _, x := range []struct {
		text string
		item Item
	}{
		{"", Item{}},
		{" = sizeof(b)", Item{Der: SizeOf, A: "b"}},
		{" = countof(a)", Item{Der: CountOf, A: "a"}},
		{" = crc32(b..c)", Item{Der: Crc, A: "b", B: "c"}},
		{" = adler32(c..c)", Item{Der: Adler, A: "c", B: "c"}},
	} {
		x.item.Name, x.item.Where = "a", -1
		file := File{Structs: []Struct{{Name: "S", Items: []Item{x.item}}}, Exprs: names[:1], Types: []Type{{Kind: Bytes, Expr: 0, Inner: -1}}}
		checkFile(t, body("bytes[n]"+x.text), file)
		x.item.Where = 1
		file.Structs = []Struct{{Name: "S", Items: []Item{x.item}}}
		file.Exprs = names
		checkFile(t, body("bytes[n]"+x.text+" where m"), file)
	}
}

// P7.1: the operands of each pair of operators, by their levels.
func TestParseLevels(t *testing.T) {
	kids := func(op string, a, b int) Expr { return Expr{Kind: Bin, Op: op, Kids: []int{a, b}} }
	a, b, c := Expr{Kind: Name, Name: "a"}, Expr{Kind: Num, N: 7}, Expr{Kind: Name, Name: "c"}
	file := func(l ...Expr) File {
		f := typed([]Type{{Kind: Bytes, Expr: 4, Inner: -1}}, l)
		return f
	}
	for i, some := range levels {
		for j, others := range levels {
			for _, x := range strings.Fields(some) {
				for _, y := range strings.Fields(others) {
					want := file(a, b, kids(x, 0, 1), c, kids(y, 2, 3))
					if j > i {
						want = file(a, b, c, kids(y, 1, 2), kids(x, 0, 3))
					}
					checkFile(t, body("bytes[a "+x+" 7 "+y+" c]"), want)
					checkFile(t, body("bytes[a "+x+" (7 "+y+" c)]"), file(a, b, c, kids(y, 1, 2), kids(x, 0, 3)))
				}
			}
		}
	}
	for _, op := range strings.Fields(allOperators) {
		not := func(at int) Expr { return Expr{Kind: Not, Kids: []int{at}} }
		checkFile(t, body("bytes[!a"+op+"c]"), typed([]Type{{Kind: Bytes, Expr: 3, Inner: -1}}, []Expr{a, not(0), c, kids(op, 1, 2)}))
		checkFile(t, body("bytes[!(a"+op+"c)]"), typed([]Type{{Kind: Bytes, Expr: 3, Inner: -1}}, []Expr{a, c, kids(op, 0, 1), not(2)}))
		checkFile(t, body("bytes[a"+op+"!!c]"), typed([]Type{{Kind: Bytes, Expr: 4, Inner: -1}}, []Expr{a, c, not(1), not(2), kids(op, 0, 3)}))
	}
}

// maker makes a text by chance, and the file that it is.
type maker struct {
	*rand.Rand
	file File
}

func (m *maker) pick(list string) string {
	words := strings.Fields(list)
	return words[m.Intn(len(words))]
}

func (m *maker) name() string {
	return m.pick("a b n S size u9 U8 _ case1")
}

func (m *maker) number() (string, uint64) {
	n := m.Uint64() >> m.Intn(64)
	return fmt.Sprintf([]string{"%d", "0x%x"}[m.Intn(2)], n), n
}

func (m *maker) addExpr(x Expr) int {
	m.file.Exprs = append(m.file.Exprs, x)
	return len(m.file.Exprs) - 1
}

func (m *maker) addType(t Type) int {
	m.file.Types = append(m.file.Types, t)
	return len(m.file.Types) - 1
}

// expr makes an expression that can be an operand of an operator of the level
// below: one of a lower level stands in parentheses.
func (m *maker) expr(level, deep int) (string, int) {
	if k := m.Intn(5); deep > 0 && k == 0 {
		s, at := m.expr(len(levels), deep-1)
		return "!" + s, m.addExpr(Expr{Kind: Not, Kids: []int{at}})
	} else if deep > 0 && k == 1 {
		s, at := m.expr(0, deep-1)
		return "(" + s + ")", at
	} else if deep > 0 && level < len(levels) {
		own := level + m.Intn(len(levels)-level)
		op := m.pick(levels[own])
		a, i := m.expr(own, deep-1)
		b, j := m.expr(own+1, deep-1)
		return a + op + b, m.addExpr(Expr{Kind: Bin, Op: op, Kids: []int{i, j}})
	} else if k == 2 {
		s, n := m.number()
		return s, m.addExpr(Expr{Kind: Num, N: n})
	}
	name := m.name()
	return name, m.addExpr(Expr{Kind: Name, Name: name})
}

func (m *maker) index() (string, int) {
	s, at := m.expr(0, 3)
	return "[" + s + "]", at
}

func (m *maker) element(array bool) (string, int) {
	t := Type{Expr: -1, Inner: -1, Kind: Ref}
	s := m.name()
	if m.Intn(2) == 0 {
		i := m.Intn(9)
		s = strings.Fields(allIntegers)[i]
		t.Kind, t.Size, t.Little = Int, []int{1, 2, 2, 3, 3, 4, 4, 8, 8}[i], i > 0 && i%2 == 0
	} else if t.Name = s; m.Intn(2) == 0 {
		var args []string
		for range 1 + m.Intn(3) {
			arg, at := m.expr(0, 2)
			args = append(args, arg)
			t.Args = append(t.Args, at)
		}
		s += "(" + strings.Join(args, ",") + ")"
	}
	at := m.addType(t)
	if !array {
		return s, at
	}
	e, expr := m.index()
	return s + e, m.addType(Type{Kind: Array, Expr: expr, Inner: at})
}

func (m *maker) branches(s string, t *Type, deep int) string {
	for range m.Intn(3) {
		number, n := m.number()
		text, at := m.typ(deep - 1)
		s += "case " + number + ":" + text + ";"
		t.Cases = append(t.Cases, Case{n, at})
	}
	if m.Intn(2) == 0 {
		text, at := m.typ(deep - 1)
		s += "else:" + text + ";"
		t.Inner = at
	}
	return s + "}"
}

func (m *maker) typ(deep int) (string, int) {
	t := Type{Expr: -1, Inner: -1}
	s, inner := "", ""
	kind := m.Intn(10)
	if deep == 0 {
		kind = m.Intn(6)
	}
	switch kind {
	case 0, 1:
		return m.element(kind == 0)
	case 2:
		t.Kind, s = Tail, "tail"
	case 3:
		t.Kind, s = None, "none"
	case 4, 5:
		k := m.Intn(3)
		s, t.Expr = m.index()
		t.Kind, s = []TypeKind{Bytes, Zero, Skip}[k], []string{"bytes", "zero", "skip"}[k]+s
	case 6, 7:
		k := m.Intn(2)
		s, t.Expr = m.index()
		inner, t.Inner = m.typ(deep - 1)
		t.Kind, s = []TypeKind{Window, At}[k], []string{"window", "at"}[k]+s+inner
	case 8:
		inner, t.Inner = m.typ(deep - 1)
		t.Kind, s = Rest, "rest "+inner
	case 9:
		s, t.Expr = m.expr(0, 3)
		t.Kind, s = Switch, m.branches("switch("+s+"){", &t, deep)
	}
	return s, m.addType(t)
}

func (m *maker) field() (string, Item) {
	x := Item{Name: m.name(), Where: -1}
	s := x.Name + ":"
	text, at := m.typ(3)
	s += text
	x.Type = at
	a, b := m.name(), m.name()
	switch x.Der = DerKind(m.Intn(int(DerKinds))); x.Der {
	case SizeOf:
		s, x.A = s+"=sizeof("+a+")", a
	case CountOf:
		s, x.A = s+"=countof("+a+")", a
	case Crc:
		s, x.A, x.B = s+"=crc32("+a+".."+b+")", a, b
	case Adler:
		s, x.A, x.B = s+"=adler32("+a+".."+b+")", a, b
	}
	if m.Intn(2) == 0 {
		text, x.Where = m.expr(0, 4)
		s += " where " + text
	}
	return s + ";", x
}

func (m *maker) structure() string {
	x := Struct{Name: m.name()}
	s := "struct " + x.Name
	for range m.Intn(3) {
		x.Params = append(x.Params, m.name())
	}
	if x.Params != nil {
		s += "(" + strings.Join(x.Params, ",") + ")"
	}
	s += "{"
	for range m.Intn(4) {
		text, item := m.field()
		s += text
		x.Items = append(x.Items, item)
	}
	m.file.Structs = append(m.file.Structs, x)
	return s + "}"
}

// P7.1: texts by chance are the files that they were made with.
func TestParseMade(t *testing.T) {
	for i := range int64(2000) {
		m := maker{Rand: rand.New(rand.NewSource(i))}
		s := ""
		for range m.Intn(3) {
			name := m.name()
			number, n := m.number()
			s += "const " + name + "=" + number + ";"
			m.file.Consts = append(m.file.Consts, Const{name, n})
			s += m.structure()
		}
		if len(s) > api.MaxText {
			continue
		}
		if checkFile(t, s, m.file); t.Failed() {
			return
		}
	}
}

// P7.1: the chapter's example.
func TestExample(t *testing.T) {
	exprs := []Expr{{Kind: Name, Name: "n"}, {Kind: Num, N: 1}, {Kind: Bin, Op: "+", Kids: []int{0, 1}}}
	items := []Item{{Name: "n", Where: -1}, {Name: "b", Type: 1, Where: -1}}
	checkFile(t, "struct S { n: u8; b: bytes[n + 1]; }", File{
		Structs: []Struct{{Name: "S", Items: items}},
		Exprs:   exprs,
		Types:   []Type{integer(1, false), {Kind: Bytes, Expr: 2, Inner: -1}},
	})
}
