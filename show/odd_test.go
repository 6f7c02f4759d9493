package show

import (
	"math"
	"slices"
	"strings"
	"testing"

	"calliper/api"
	"calliper/parse"
)

// everything is a description with all that there is.
const everything = `
const K = 1; const L = 2;
struct S(p, q) {
  pack u8 { x: 3; y: 5; }
  pack u16le { z: 16; }
  a: u8 = sizeof(b);
  b: bytes[a + 1] where !a && (a - 1) * 2 < p;
  c: u32be = crc32(a..b);
  d: u32le = adler32(b..b);
  e: u8 = countof(f);
  f: u24le[e];
  g: zero[1];
  h: skip[2];
  i: window[n] at[3] rest T(1, a);
}
struct T { }
struct U {
  a: switch (K) { case 1: u64be; case 2: tail; else: none; };
  b: switch (L) { };
  c: T(1)[2];
}`

// changes sets places of a file to other values, one after the other, and checks
// each time that the file is another one, and whether it has a text.
type changes struct {
	*testing.T
	file, old *parse.File
	text      string
	count     int
}

// change sets a place to each of the values but the one that it has.
func change[T comparable](c *changes, printable bool, place *T, values ...T) {
	c.Helper()
	was := *place
	for _, value := range values {
		if value != was {
			*place = value
			c.check(printable)
		}
	}
	*place = was
}

// check checks the file as it has been changed.
func (c *changes) check(printable bool) {
	c.Helper()
	c.count++
	if Equal(c.file, c.old) || Equal(c.old, c.file) {
		c.Errorf("%s equals what it was changed from", plain(c.file))
	}
	if !Equal(c.file, c.file) {
		c.Errorf("%s does not equal itself", plain(c.file))
	}
	if !printable {
		checkNone(c.T, c.file)
		return
	}
	text, err := Text(c.file)
	if err != api.OK || text == c.text {
		c.Errorf("Text(%s) = %q, %v", plain(c.file), text, err)
	} else if f := parsed(c.T, text); plain(f) != plain(c.file) || !Equal(f, c.file) {
		c.Errorf("Text(%s) = %q, which is %s", plain(c.file), text, plain(f))
	} else if Expr(c.file, 0) == "" || Type(c.file, 0) == "" {
		c.Errorf("%q has no parts", text)
	}
}

// wrongNames are no names, and would not be if they were parts of a text either.
var wrongNames = []string{"", "1", "0x1", "u8", "u64le", "const", "else", "tail", strings.Repeat("x", api.MaxWord+1), "a b", "a;", " a", "a ", "a\n", "a//", "a: u8; b", "a\x00", "é", "a-b", "n]; x: bytes[n", strings.Repeat("x", api.MaxText)}

// name changes a name, if there is one at this place.
func (c *changes) name(place *string) {
	c.Helper()
	if *place == "" {
		change(c, false, place, append([]string{"a", "Z"}, wrongNames...)...)
		return
	}
	change(c, true, place, "Z", "_", "U8", "size", strings.Repeat("x", api.MaxWord))
	change(c, false, place, wrongNames...)
}

// number changes a number, if there has to be one at this place.
func (c *changes) number(place *uint64, has bool) {
	c.Helper()
	change(c, has, place, 0, 7, 10, 1<<63, math.MaxUint64)
}

// index changes an index. There is just one that a part can have.
func (c *changes) index(place *int) {
	c.Helper()
	for i := -3; i < max(len(c.file.Exprs), len(c.file.Types))+3; i++ {
		change(c, false, place, i)
	}
	change(c, false, place, math.MinInt, math.MaxInt)
}

// integer changes an integer, if there is one at this place.
func (c *changes) integer(size *int, little *bool, has bool) {
	c.Helper()
	change(c, has, size, 2, 3, 4, 8)
	change(c, has && !*little, size, 1)
	change(c, false, size, -1, 0, 5, 6, 7, 9, 16, math.MinInt, math.MaxInt)
	change(c, has && *size > 1, little, !*little)
}

func (c *changes) expr(x *parse.Expr) {
	c.Helper()
	change(c, false, &x.Kind, parse.Num, parse.Name, parse.Not, parse.Bin, parse.ExprKinds, -1, math.MaxInt, math.MinInt)
	change(c, x.Kind == parse.Bin, &x.Op, strings.Fields(strings.Join(levels, " "))...)
	change(c, false, &x.Op, "", "=", "!", "..", " +", "+ ", "+ +", ";", "]", "a", "+ 1 +", "n")
	c.number(&x.N, x.Kind == parse.Num)
	c.name(&x.Name)
	for i := range x.Kids {
		c.index(&x.Kids[i])
	}
}

// alike reports whether a type would be one of this kind with the same parts, in
// the same order.
func alike(f *parse.File, x parse.Type, kind parse.TypeKind) bool {
	var kinds []parse.TypeKind
	switch {
	case x.Kind == parse.Tail || x.Kind == parse.None:
		kinds = []parse.TypeKind{parse.Tail, parse.None}
	case x.Expr < 0 || x.Cases != nil:
	case x.Inner < 0:
		kinds = []parse.TypeKind{parse.Bytes, parse.Zero, parse.Skip, parse.Switch}
	case x.Kind != parse.Array || f.Types[x.Inner].Kind == parse.Int:
		// In an array the inner type comes first, which matters if it has expressions.
		kinds = []parse.TypeKind{parse.Window, parse.At, parse.Switch}
	}
	return slices.Contains(kinds, kind)
}

func (c *changes) typ(x *parse.Type) {
	c.Helper()
	was := *x
	for kind := range parse.TypeKinds {
		change(c, alike(c.file, was, kind), &x.Kind, kind)
	}
	change(c, false, &x.Kind, parse.TypeKinds, -1, math.MaxInt, math.MinInt)
	c.integer(&x.Size, &x.Little, x.Kind == parse.Int)
	c.name(&x.Name)
	c.index(&x.Expr)
	c.index(&x.Inner)
	for i := range x.Args {
		c.index(&x.Args[i])
	}
	for i := range x.Cases {
		c.number(&x.Cases[i].N, true)
		c.index(&x.Cases[i].Type)
	}
}

func (c *changes) item(x *parse.Item) {
	c.Helper()
	c.name(&x.Name)
	c.index(&x.Type)
	c.index(&x.Where)
	for i, der := range []parse.DerKind{parse.SizeOf, parse.CountOf, parse.Crc, parse.Adler} {
		same := i < 2 && (x.Der == parse.SizeOf || x.Der == parse.CountOf) || i > 1 && (x.Der == parse.Crc || x.Der == parse.Adler)
		change(c, same, &x.Der, der)
	}
	change(c, false, &x.Der, parse.Free, parse.DerKinds, -1, math.MaxInt, math.MinInt)
	c.name(&x.A)
	c.name(&x.B)
	c.integer(&x.Size, &x.Little, x.Subs != nil)
	for i := range x.Subs {
		c.name(&x.Subs[i].Name)
		change(c, true, &x.Subs[i].Bits, 0, 1, 64, 1048575, 1048576)
		change(c, false, &x.Subs[i].Bits, -1, 1048577, math.MaxInt, math.MinInt)
	}
}

func changing(t *testing.T) *changes {
	c := &changes{T: t, file: parsed(t, everything), old: parsed(t, everything)}
	text, err := Text(c.file)
	if err != api.OK || !Equal(c.file, c.old) {
		t.Fatalf("Text(%s) = %v", plain(c.file), err)
	}
	c.text = text
	return c
}

// P8.1, P8.2: each place of a file, set to what it can be and to what it cannot.
func TestChange(t *testing.T) {
	c := changing(t)
	f := c.file
	for i := range f.Consts {
		c.name(&f.Consts[i].Name)
		c.number(&f.Consts[i].N, true)
	}
	for i := range f.Structs {
		s := &f.Structs[i]
		c.name(&s.Name)
		for j := range s.Params {
			c.name(&s.Params[j])
		}
		for j := range s.Items {
			c.item(&s.Items[j])
		}
	}
	for i := range f.Exprs {
		c.expr(&f.Exprs[i])
	}
	for i := range f.Types {
		c.typ(&f.Types[i])
	}
	if c.count < 5000 || !Equal(f, c.old) {
		t.Errorf("%d changes, and then %s", c.count, plain(f))
	}
}

// list changes a list: to one less, to one more, and to another order.
func list[T any](c *changes, place *[]T, less, more, turned bool, x T) {
	c.Helper()
	was := *place
	if len(was) > 0 {
		*place = was[:len(was)-1]
		c.check(less)
	}
	*place = append(slices.Clone(was), x)
	c.check(more)
	if len(was) > 1 {
		*place = slices.Clone(was)
		slices.Reverse(*place)
		c.check(turned)
	}
	// What is behind the elements of a list is no part of it.
	*place = append(slices.Clone(was), x)[:len(was)]
	if text, err := Text(c.file); text != c.text || err != api.OK || !Equal(c.file, c.old) {
		c.Errorf("with more memory: %q, %v", text, err)
	}
	*place = was
}

// P8.1, P8.2: each list of a file, with less, more, and in another order.
func TestChangeLists(t *testing.T) {
	c := changing(t)
	f := c.file
	list(c, &f.Consts, true, true, true, parse.Const{Name: "K", N: 7})
	list(c, &f.Structs, false, true, false, parse.Struct{Name: "S"})
	list(c, &f.Exprs, false, false, false, parse.Expr{Kind: parse.Num})
	list(c, &f.Types, false, false, false, parse.Type{Kind: parse.None, Expr: -1, Inner: -1})
	pack := parse.Item{Type: -1, Where: -1, Size: 1, Subs: []parse.Sub{{Name: "x", Bits: 1}}}
	for i := range f.Structs {
		s := &f.Structs[i]
		list(c, &s.Params, true, true, true, "p")
		list(c, &s.Items, false, true, false, pack)
		for j := range s.Items {
			x := &s.Items[j]
			list(c, &x.Subs, len(x.Subs) > 1, len(x.Subs) > 0, true, parse.Sub{Name: "x"})
		}
	}
	for i := range f.Exprs {
		list(c, &f.Exprs[i].Kids, false, false, false, 0)
	}
	for i := range f.Types {
		list(c, &f.Types[i].Args, false, false, false, 0)
		list(c, &f.Types[i].Cases, false, false, false, parse.Case{})
	}
	if !Equal(f, c.old) {
		t.Errorf("the changes end with %s", plain(f))
	}
}

// P8.1: files that are the same, and what no file is the same as.
func TestEqual(t *testing.T) {
	if !Equal(nil, nil) || Equal(nil, &parse.File{}) || Equal(&parse.File{}, nil) || !Equal(&parse.File{}, &parse.File{}) {
		t.Errorf("no file equals just no file")
	}
	f, empty := parsed(t, everything), parsed(t, everything)
	for i := range empty.Exprs {
		empty.Exprs[i].Kids = append([]int{}, empty.Exprs[i].Kids...)
	}
	for i := range empty.Types {
		empty.Types[i].Args = append([]int{}, empty.Types[i].Args...)
		empty.Types[i].Cases = append([]parse.Case{}, empty.Types[i].Cases...)
	}
	for i := range empty.Structs {
		s := &empty.Structs[i]
		s.Params = append([]string{}, s.Params...)
		s.Items = append([]parse.Item{}, s.Items...)
		for j := range s.Items {
			s.Items[j].Subs = append([]parse.Sub{}, s.Items[j].Subs...)
		}
	}
	if !Equal(f, empty) || !Equal(empty, f) {
		t.Errorf("lists that are empty differ from such that are nil")
	}
	text, _ := Text(f)
	checkText(t, empty, text)
	nothing := &parse.File{Consts: []parse.Const{}, Structs: []parse.Struct{}, Exprs: []parse.Expr{}, Types: []parse.Type{}}
	checkText(t, nothing, "")
	if !Equal(nothing, &parse.File{}) || Equal(nothing, nil) || Equal(nothing, f) {
		t.Errorf("a file of nothing")
	}
	if !Equal(f, parsed(t, text)) || Equal(f, parsed(t, "")) {
		t.Errorf("a file and its text")
	}
	// These have no text, and are compared all the same.
	odd := func(n int) *parse.File {
		return &parse.File{Structs: []parse.Struct{{Name: "1"}}, Types: []parse.Type{{Inner: 0, Size: n}}}
	}
	if !Equal(odd(-1), odd(-1)) || Equal(odd(-1), odd(-2)) {
		t.Errorf("files without a text")
	}
}

// typed is a file of one field with the last of these types.
func typed(types []parse.Type, exprs []parse.Expr) *parse.File {
	x := parse.Item{Name: "a", Type: len(types) - 1, Where: -1}
	return &parse.File{Structs: []parse.Struct{{Name: "S", Items: []parse.Item{x}}}, Types: types, Exprs: exprs}
}

// summed is a file of one field with the last of these expressions.
func summed(exprs []parse.Expr) *parse.File {
	return typed([]parse.Type{{Kind: parse.Bytes, Expr: len(exprs) - 1, Inner: -1}}, exprs)
}

// P8.1, P8.2, P1: parts of themselves have no text, nor have parts that stand ahead
// of their own parts.
func TestCycles(t *testing.T) {
	for _, kids := range [][2]int{{0, 0}, {1, 0}, {2, 1}, {1, 2}, {2, 2}, {-1, 0}, {0, -1}, {3, 0}, {0, math.MaxInt}, {math.MinInt, 0}} {
		leaf := parse.Expr{Kind: parse.Num}
		checkNone(t, summed([]parse.Expr{leaf, leaf, {Kind: parse.Bin, Op: "+", Kids: kids[:]}}))
		checkNone(t, summed([]parse.Expr{{Kind: parse.Bin, Op: "+", Kids: kids[:]}, leaf, {Kind: parse.Bin, Op: "*", Kids: []int{0, 1}}}))
		if kids[0] != 0 {
			checkNone(t, summed([]parse.Expr{leaf, {Kind: parse.Not, Kids: kids[:1]}}))
		}
	}
	checkNone(t, summed([]parse.Expr{{Kind: parse.Not, Kids: []int{1}}, {Kind: parse.Num}}))
	none := parse.Type{Kind: parse.None, Expr: -1, Inner: -1}
	zero := []parse.Expr{{Kind: parse.Num}}
	for kind := range parse.TypeKinds + 1 {
		for _, inner := range []int{1, 2, 3, math.MaxInt, math.MinInt, -2} {
			for _, e := range []int{-1, 0, 1} {
				checkNone(t, typed([]parse.Type{none, {Kind: kind, Expr: e, Inner: inner}}, zero))
				checkNone(t, typed([]parse.Type{{Kind: kind, Expr: e, Inner: inner}, none, {Kind: parse.Rest, Expr: -1, Inner: 0}}, zero))
				checkNone(t, typed([]parse.Type{none, {Kind: kind, Expr: e, Inner: 0, Cases: []parse.Case{{Type: inner}}}}, zero))
			}
		}
	}
}

// P8.1, P8.2, P1: parts that stand in many places would have a text without end.
func TestShared(t *testing.T) {
	for _, leaf := range []parse.Expr{{Kind: parse.Num}, {Kind: parse.Name, Name: "n"}, {Kind: parse.Name}} {
		exprs := []parse.Expr{leaf}
		args := []parse.Expr{leaf}
		for i := range 200 {
			exprs = append(exprs, parse.Expr{Kind: parse.Bin, Op: "+", Kids: []int{i, i}})
			args = append(args, leaf)
		}
		checkNone(t, summed(exprs))
		checkNone(t, typed([]parse.Type{{Kind: parse.Ref, Args: slices.Repeat([]int{200}, 1000), Expr: -1, Inner: -1}}, exprs))
		checkNone(t, typed([]parse.Type{{Kind: parse.Array, Expr: 200, Inner: 0}}, exprs))
		types := []parse.Type{{Kind: parse.Ref, Expr: -1, Inner: -1}}
		for i := range 200 {
			types = append(types, parse.Type{Kind: parse.Switch, Expr: 0, Inner: i, Cases: []parse.Case{{Type: i}}})
		}
		checkNone(t, typed(types, args))
	}
	items := slices.Repeat([]parse.Item{{Name: "a", Where: -1}}, 1<<16)
	f := &parse.File{Structs: slices.Repeat([]parse.Struct{{Name: "S", Items: items}}, 1<<16), Types: []parse.Type{{Size: 1, Expr: -1, Inner: -1}}}
	if text, err := Text(f); text != "" || err != api.ErrForm || Type(f, 0) != "" {
		t.Errorf("Text of very many items = %.100q, %v", text, err)
	}
}

// P8.1, P8.2, P1: files that are too great for a text.
func TestGreat(t *testing.T) {
	const many = 1 << 20
	exprs := []parse.Expr{{Kind: parse.Num}}
	types := []parse.Type{{Kind: parse.None, Expr: -1, Inner: -1}}
	for i := range many {
		exprs = append(exprs, parse.Expr{Kind: parse.Bin, Op: "+", Kids: []int{i, i}})
		types = append(types, parse.Type{Kind: parse.Array, Expr: 0, Inner: i})
	}
	name := strings.Repeat("x", many)
	for i, f := range []*parse.File{
		summed(exprs),
		typed(types, exprs[:1]),
		{Exprs: exprs},
		{Types: types},
		{Consts: slices.Repeat([]parse.Const{{}}, many)},
		{Consts: slices.Repeat([]parse.Const{{Name: name}}, many)},
		{Structs: slices.Repeat([]parse.Struct{{Name: name}}, many)},
		{Structs: []parse.Struct{{Name: "S", Params: make([]string, many)}}},
		{Structs: []parse.Struct{{Name: "S", Items: make([]parse.Item, many)}}},
		{Structs: []parse.Struct{{Name: "S", Items: []parse.Item{{Type: -1, Where: -1, Size: 1, Subs: make([]parse.Sub, many)}}}}},
		typed([]parse.Type{{Kind: parse.Switch, Inner: -1, Cases: make([]parse.Case, many)}}, exprs[:1]),
		typed([]parse.Type{{Kind: parse.Ref, Name: "T", Inner: -1, Args: make([]int, many)}}, []parse.Expr{{Kind: parse.Name}}),
	} {
		text, err := Text(f)
		if text != "" || err != api.ErrForm || Expr(f, 0) != "" || Type(f, 0) != "" || !Equal(f, f) || Equal(f, nil) {
			t.Errorf("%d: Text = %.100q, %v", i, text, err)
		}
	}
}

// P8.1: files at the limits of layer 7, and one more.
func TestLimits(t *testing.T) {
	most := api.MaxDepth
	for _, n := range []int{most, most + 1} {
		nots := []parse.Expr{{Kind: parse.Num, N: 7}}
		bins := slices.Repeat(nots, n+2)
		rests := []parse.Type{{Kind: parse.None, Expr: -1, Inner: -1}}
		for i := range n {
			nots = append(nots, parse.Expr{Kind: parse.Not, Kids: []int{i}})
			rests = append(rests, parse.Type{Kind: parse.Rest, Expr: -1, Inner: i})
		}
		for i := range n + 1 {
			bins = append(bins, parse.Expr{Kind: parse.Bin, Op: "-", Kids: []int{n - i, n + 1 + i}})
		}
		all := map[*parse.File]string{
			summed(nots):      field("bytes[" + strings.Repeat("!", n) + "7]"),
			typed(rests, nil): field(strings.Repeat("rest ", n) + "none"),
			summed(bins):      field("bytes[" + strings.Repeat("7 - (", n) + "7 - 7" + strings.Repeat(")", n) + "]"),
		}
		for f, want := range all {
			if n == most {
				checkText(t, f, want)
			} else {
				checkNone(t, f)
			}
		}
	}
	checkCount(t, api.MaxStructs, func(n int) *parse.File {
		return &parse.File{Consts: slices.Repeat([]parse.Const{{Name: "K"}}, n)}
	})
	checkCount(t, api.MaxStructs, func(n int) *parse.File {
		return &parse.File{Structs: slices.Repeat([]parse.Struct{{Name: "S"}}, n)}
	})
	checkCount(t, api.MaxItems, func(n int) *parse.File {
		return &parse.File{Structs: []parse.Struct{{Name: "S", Params: slices.Repeat([]string{"p"}, n)}}}
	})
	checkCount(t, api.MaxItems, func(n int) *parse.File {
		pack := parse.Item{Type: -1, Where: -1, Size: 1, Subs: slices.Repeat([]parse.Sub{{Name: "x"}}, n)}
		return &parse.File{Structs: []parse.Struct{{Name: "S", Items: []parse.Item{pack}}}}
	})
	checkCount(t, api.MaxItems, func(n int) *parse.File {
		pack := parse.Item{Type: -1, Where: -1, Size: 1, Subs: []parse.Sub{{Name: "x"}}}
		return &parse.File{Structs: []parse.Struct{{Name: "S", Items: slices.Repeat([]parse.Item{pack}, n)}}}
	})
}

// checkCount checks that a file has a text with as many as there may be, and none
// with one more.
func checkCount(t *testing.T, most int, file func(n int) *parse.File) {
	t.Helper()
	f := file(most)
	text, err := Text(f)
	if err != api.OK || plain(parsed(t, text)) != plain(f) {
		t.Errorf("Text(%.300s) = %.300q, %v", plain(f), text, err)
	}
	checkNone(t, file(most+1))
}
