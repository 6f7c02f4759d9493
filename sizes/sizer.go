package sizes

import (
	"math"

	"calliper/api"
	"calliper/bounds"
	"calliper/parse"
)

// sizer makes the Table of a file whose names are correct, from its beginning on. What a
// type has as its parts, and the structs that it names, stand before it.
type sizer struct {
	file  *parse.File
	table Table
	// structs are the sizes of the structs by their names.
	structs map[string]bounds.Range
	// vars are the ranges of the names that the struct at hand has so far.
	vars []bounds.Var
}

func tableOf(f *parse.File) Table {
	z := sizer{file: f, structs: map[string]bounds.Range{}}
	for _, s := range f.Structs {
		size := z.sizeStruct(s)
		z.structs[s.Name] = size
		z.table.Structs = append(z.table.Structs, size)
	}
	return z.table
}

func (z *sizer) sizeStruct(s parse.Struct) bounds.Range {
	z.vars = nil
	for _, x := range z.file.Consts {
		z.name(x.Name, bounds.Point(x.N))
	}
	for _, param := range s.Params {
		z.name(param, bounds.Range{Hi: math.MaxUint64})
	}
	sum := bounds.Point(0)
	for _, x := range s.Items {
		sum = Add(sum, z.sizeItem(x))
	}
	return sum
}

// name gives a name its range.
func (z *sizer) name(name string, r bounds.Range) {
	z.vars = append(z.vars, bounds.Var{Name: name, Range: r})
}

func (z *sizer) sizeItem(x parse.Item) bounds.Range {
	if len(x.Subs) > 0 {
		return z.sizePack(x)
	}
	for i := len(z.table.Types); i <= x.Type; i++ {
		z.table.Types = append(z.table.Types, z.sizeType(z.file.Types[i]))
	}
	// Checksums are not known, but no expression names one.
	if t := z.file.Types[x.Type]; t.Kind == parse.Int {
		z.name(x.Name, bounds.All(8*t.Size))
	}
	return z.table.Types[x.Type]
}

func (z *sizer) sizePack(x parse.Item) bounds.Range {
	for _, sub := range x.Subs {
		z.name(sub.Name, bounds.All(sub.Bits))
	}
	return bounds.Point(uint64(x.Size))
}

func (z *sizer) sizeType(t parse.Type) bounds.Range {
	switch t.Kind {
	case parse.Int:
		return bounds.Point(uint64(t.Size))
	case parse.Bytes, parse.Zero, parse.Skip, parse.Window:
		return z.numbers(t.Expr, api.MaxSize)
	case parse.Tail, parse.Rest:
		return bounds.Range{Hi: api.MaxSize}
	case parse.Array:
		return Times(z.numbers(t.Expr, api.MaxList), z.table.Types[t.Inner])
	case parse.Switch:
		return z.sizeSwitch(t)
	case parse.Ref:
		return z.structs[t.Name]
	}
	// At and None take no bytes where they stand.
	return bounds.Point(0)
}

// numbers returns the range of an expression, with a greatest number in place of all that
// are greater. It is from 0 to 0 for an expression that never evaluates to a number.
func (z *sizer) numbers(at int, most uint64) bounds.Range {
	r, _ := bounds.Of(z.file, at, z.vars)
	return bounds.Range{Lo: min(r.Lo, most), Hi: min(r.Hi, most)}
}

func (z *sizer) sizeSwitch(t parse.Type) bounds.Range {
	var sizes []bounds.Range
	for _, x := range t.Cases {
		sizes = append(sizes, z.table.Types[x.Type])
	}
	if t.Inner >= 0 {
		sizes = append(sizes, z.table.Types[t.Inner])
	}
	if len(sizes) == 0 {
		return bounds.Point(0)
	}
	all := sizes[0]
	for _, size := range sizes[1:] {
		all = all.Join(size)
	}
	return all
}
