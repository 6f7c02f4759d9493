package sizes

import (
	"fmt"
	"math"
	"math/rand"
	"slices"
	"strings"
	"testing"

	"calliper/api"
	"calliper/bounds"
	"calliper/names"
	"calliper/parse"
)

// model sizes the types of a file by the words of the chapter, each anew from its parts.
type model struct {
	*parse.File
	// names are the ranges of the names in each struct.
	names map[string][]bounds.Var
}

func modelOf(f *parse.File) model {
	m := model{f, map[string][]bounds.Var{}}
	for _, s := range f.Structs {
		m.names[s.Name] = m.vars(s)
	}
	return m
}

func capped(n uint64) uint64 { return min(n, api.MaxSize) }

// vars are the ranges of all names in a struct, wherever they stand in it.
func (m model) vars(s parse.Struct) []bounds.Var {
	var list []bounds.Var
	for _, x := range m.Consts {
		list = append(list, bounds.Var{Name: x.Name, Range: bounds.Range{Lo: x.N, Hi: x.N}})
	}
	for _, x := range s.Params {
		list = append(list, bounds.Var{Name: x, Range: bounds.Range{Lo: 0, Hi: math.MaxUint64}})
	}
	for _, x := range s.Items {
		for _, sub := range x.Subs {
			list = append(list, bounds.Var{Name: sub.Name, Range: bounds.Range{Lo: 0, Hi: math.MaxUint64 >> (64 - sub.Bits)}})
		}
		if names.Known(m.File, x) {
			list = append(list, bounds.Var{Name: x.Name, Range: bounds.Range{Lo: 0, Hi: math.MaxUint64 >> (64 - 8*m.Types[x.Type].Size)}})
		}
	}
	return list
}

// number is the range of an expression in a struct.
func (m model) number(s parse.Struct, at int) bounds.Range {
	r, ok := bounds.Of(m.File, at, m.names[s.Name])
	if !ok {
		return bounds.Range{}
	}
	return r
}

func (m model) size(s parse.Struct, at int) bounds.Range {
	x := m.Types[at]
	switch x.Kind {
	case parse.Int:
		return bounds.Range{Lo: uint64(x.Size), Hi: uint64(x.Size)}
	case parse.Bytes, parse.Zero, parse.Skip, parse.Window:
		r := m.number(s, x.Expr)
		return bounds.Range{Lo: capped(r.Lo), Hi: capped(r.Hi)}
	case parse.Tail, parse.Rest:
		return bounds.Range{Lo: 0, Hi: api.MaxSize}
	case parse.Array:
		n, of := m.number(s, x.Expr), m.size(s, x.Inner)
		return bounds.Range{Lo: product(min(n.Lo, api.MaxList), of.Lo), Hi: product(min(n.Hi, api.MaxList), of.Hi)}
	case parse.Switch:
		return m.sizeOfSwitch(s, x)
	case parse.Ref:
		i := slices.IndexFunc(m.Structs, func(s parse.Struct) bool { return s.Name == x.Name })
		return m.sizeOfStruct(m.Structs[i])
	}
	return bounds.Range{}
}

func (m model) sizeOfSwitch(s parse.Struct, x parse.Type) bounds.Range {
	lo, hi := uint64(math.MaxUint64), uint64(0)
	kids := []int{x.Inner}
	for _, c := range x.Cases {
		kids = append(kids, c.Type)
	}
	for _, kid := range kids {
		if kid >= 0 {
			r := m.size(s, kid)
			lo, hi = min(lo, r.Lo), max(hi, r.Hi)
		}
	}
	if lo > hi {
		return bounds.Range{}
	}
	return bounds.Range{Lo: lo, Hi: hi}
}

func (m model) sizeOfStruct(s parse.Struct) bounds.Range {
	all := bounds.Range{}
	for _, x := range s.Items {
		r := bounds.Range{Lo: uint64(x.Size), Hi: uint64(x.Size)}
		if len(x.Subs) == 0 {
			r = m.size(s, x.Type)
		}
		all = bounds.Range{Lo: sum(all.Lo, r.Lo), Hi: sum(all.Hi, r.Hi)}
	}
	return all
}

// walk goes through a type and all its parts.
func (m model) walk(at int, visit func(at int)) {
	visit(at)
	if m.Types[at].Inner >= 0 {
		m.walk(m.Types[at].Inner, visit)
	}
	for _, c := range m.Types[at].Cases {
		m.walk(c.Type, visit)
	}
}

// fields calls back with each field that is no pack, and its struct.
func (m model) fields(visit func(s parse.Struct, x parse.Item)) {
	for _, s := range m.Structs {
		for _, x := range s.Items {
			if len(x.Subs) == 0 {
				visit(s, x)
			}
		}
	}
}

// table is what Of returns for the file, and what Empty does.
func (m model) table() (Table, string) {
	u, empty := Table{Types: make([]bounds.Range, len(m.Types))}, ""
	for _, s := range m.Structs {
		u.Structs = append(u.Structs, m.sizeOfStruct(s))
	}
	m.fields(func(s parse.Struct, x parse.Item) {
		m.walk(x.Type, func(at int) {
			u.Types[at] = m.size(s, at)
			list := m.Types[at].Kind == parse.Array || m.Types[at].Kind == parse.Rest
			if list && empty == "" && m.size(s, m.Types[at].Inner).Lo == 0 {
				empty = x.Name
			}
		})
	})
	return u, empty
}

// grower makes descriptions by chance. What it has defined so far can be named.
type grower struct {
	*rand.Rand
	numbers []string
	// structs are the names of the structs, and of each the number of its params.
	structs map[string]int
	fields  int
}

func pick[T any](g *grower, list ...T) T { return list[g.Intn(len(list))] }

func (g *grower) number() string {
	if g.Intn(3) > 0 {
		return fmt.Sprint(g.Intn(6))
	}
	return fmt.Sprint(pick(g, uint64(255), 256, 65535, 65536, 65537, 1<<32, api.MaxSize-1, api.MaxSize, api.MaxSize+1, 1<<63, math.MaxUint64))
}

func (g *grower) expr(deep int) string {
	switch kind := g.Intn(6); {
	case kind < 2 && len(g.numbers) > 0:
		return pick(g, g.numbers...)
	case kind < 3 || deep == 0:
		return g.number()
	case kind == 3:
		return "!(" + g.expr(deep-1) + ")"
	}
	op := pick(g, "+", "+", "+", "-", "*", "/", "%", "<<", ">>", "&", "|", "==", "<", "&&")
	return "(" + g.expr(deep-1) + ") " + op + " (" + g.expr(deep-1) + ")"
}

func (g *grower) integer() string {
	return pick(g, "u8", "u16be", "u16le", "u24be", "u24le", "u32be", "u32le", "u64be", "u64le")
}

// name is an integer or a struct by its name.
func (g *grower) name() string {
	if len(g.structs) == 0 || g.Intn(3) == 0 {
		return g.integer()
	}
	name := fmt.Sprintf("T%d", g.Intn(len(g.structs)))
	var args []string
	for range g.structs[name] {
		args = append(args, g.expr(1))
	}
	if len(args) == 0 {
		return name
	}
	return name + "(" + strings.Join(args, ", ") + ")"
}

func (g *grower) typ(deep int) string {
	kind := g.Intn(14)
	if deep == 0 && kind > 8 {
		kind = g.Intn(9)
	}
	switch kind {
	case 0, 1:
		return g.integer()
	case 2:
		return g.name()
	case 3, 4, 5:
		return pick(g, "bytes", "zero", "skip") + "[" + g.expr(2) + "]"
	case 6:
		return pick(g, "tail", "none")
	case 7, 8:
		return g.name() + "[" + g.expr(2) + "]"
	case 9, 10:
		return pick(g, "window", "at") + "[" + g.expr(2) + "] " + g.typ(deep-1)
	case 11:
		return "rest " + g.typ(deep-1)
	}
	s := "switch (" + g.expr(1) + ") {"
	for i := range g.Intn(4) {
		s += fmt.Sprintf(" case %d: %s;", i, g.typ(deep-1))
	}
	if g.Intn(2) == 0 {
		s += " else: " + g.typ(deep-1) + ";"
	}
	return s + " }"
}

// item makes a field, named by its number in the file, or a pack.
func (g *grower) item() string {
	g.fields++
	name := fmt.Sprintf("f%d", g.fields)
	switch g.Intn(8) {
	case 0:
		size := pick(g, 1, 2, 3, 4, 8)
		bits := 1 + g.Intn(8*size-1)
		g.numbers = append(g.numbers, name, name+"b")
		return fmt.Sprintf("pack %s { %s: %d; %sb: %d; } ", parse.Word(size, g.Intn(2) == 0), name, bits, name, 8*size-bits)
	case 1, 2, 3:
		g.numbers = append(g.numbers, name)
		return name + ": " + g.integer() + pick(g, "", " where "+g.expr(1)) + "; "
	case 4:
		return name + "x: none; " + name + ": u32be = crc32(" + name + "x.." + name + "x); "
	}
	s := g.typ(3)
	if parse.Keyword(s) && s != "none" && s != "tail" {
		g.numbers = append(g.numbers, name)
	}
	return name + ": " + s + "; "
}

func (g *grower) text() string {
	s := ""
	for i := range g.Intn(3) {
		name := fmt.Sprintf("K%d", i)
		s += "const " + name + " = " + g.number() + "; "
		g.numbers = append(g.numbers, name)
	}
	consts, last := g.numbers, g.Intn(4)
	for i := range last + 1 {
		name, params := fmt.Sprintf("T%d", i), []string{}
		for k := range g.Intn(3) {
			params = append(params, fmt.Sprintf("p%d", k))
		}
		s += "struct " + name
		if i == last {
			params = nil
		}
		if len(params) > 0 {
			s += "(" + strings.Join(params, ", ") + ")"
		}
		g.numbers = append(slices.Clone(consts), params...)
		s += " { "
		for range 1 + g.Intn(6) {
			s += g.item()
		}
		s += "} "
		g.structs[name] = len(params)
	}
	return s
}

// P12.2 and P12.3: descriptions by chance, against the words of the chapter. P12.4: what
// follows from these.
func TestByChance(t *testing.T) {
	ok, empty := 0, 0
	for seed := range int64(4000) {
		g := grower{Rand: rand.New(rand.NewSource(seed)), structs: map[string]int{}}
		s := g.text()
		f := parsed(t, s)
		want, name := modelOf(f).table()
		u, err := Of(f)
		if err != api.OK || !slices.Equal(u.Types, want.Types) || !slices.Equal(u.Structs, want.Structs) {
			t.Fatalf("%s\n got %v, %v\nwant %v", s, u, err, want)
		}
		checkEmpty(t, s, name)
		checkFollows(t, s, u)
		if t.Failed() {
			return
		}
		ok++
		if name != "" {
			ok, empty = ok-1, empty+1
		}
	}
	if ok < 1000 || empty < 500 {
		t.Errorf("%d descriptions without lists of empty elements, %d with some", ok, empty)
	}
}

// checkFollows checks P12.4 on a table, and that its ranges are sizes.
func checkFollows(t *testing.T, s string, u Table) {
	t.Helper()
	f := parsed(t, s)
	for _, r := range slices.Concat(u.Types, u.Structs) {
		if r.Lo > r.Hi || r.Hi > api.MaxSize {
			t.Errorf("%s\n%v is no size", s, r)
		}
	}
	for i, x := range f.Structs {
		least := uint64(0)
		for _, item := range x.Items {
			if len(item.Subs) == 0 {
				least = sum(least, u.Types[item.Type].Lo)
			}
		}
		if u.Structs[i].Lo < least {
			t.Errorf("%s\n%s is at least %d, its fields %d", s, x.Name, u.Structs[i].Lo, least)
		}
	}
	_, err := Empty(f)
	for _, x := range f.Types {
		if err == api.OK && (x.Kind == parse.Array || x.Kind == parse.Rest) && u.Types[x.Inner].Lo == 0 {
			t.Errorf("%s\nthere is a list of what can be empty", s)
		}
	}
}
