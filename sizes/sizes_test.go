package sizes

import (
	"math"
	"math/big"
	"testing"

	"calliper/api"
	"calliper/bounds"
	"calliper/parse"
)

// edges are numbers at which sums and products become too great for a size, or for 64 bits.
func edges() []uint64 {
	list := []uint64{0, 1, 2, 3, 255, 256, api.MaxList, math.MaxUint64, math.MaxUint64 - 1}
	for _, bits := range []int{20, 24, 32, 39, 40, 41, 62, 63} {
		list = append(list, 1<<bits-1, 1<<bits, 1<<bits+1)
	}
	return list
}

func bigOf(n uint64) *big.Int {
	return new(big.Int).SetUint64(n)
}

// cut is a number as the edge of a size.
func cut(n *big.Int) uint64 {
	if n.Cmp(big.NewInt(api.MaxSize)) > 0 {
		return api.MaxSize
	}
	return n.Uint64()
}

func sum(a, b uint64) uint64     { return cut(bigOf(0).Add(bigOf(a), bigOf(b))) }
func product(a, b uint64) uint64 { return cut(bigOf(0).Mul(bigOf(a), bigOf(b))) }

// P12.1: all numbers, in each place, against exact arithmetic; also ranges that are not
// valid.
func TestAddTimes(t *testing.T) {
	for _, lo := range edges() {
		for _, hi := range edges() {
			a := bounds.Range{Lo: lo, Hi: hi}
			for _, b := range []bounds.Range{{Lo: hi, Hi: lo}, {Lo: lo, Hi: lo}, {Lo: 1, Hi: hi}, {Lo: 2, Hi: 1}, {Lo: 0, Hi: math.MaxUint64}} {
				want := bounds.Range{Lo: sum(lo, b.Lo), Hi: sum(hi, b.Hi)}
				if got := Add(a, b); got != want || Add(b, a) != want {
					t.Errorf("Add(%v, %v) = %v, and %v the other way; want %v", a, b, got, Add(b, a), want)
				}
				want = bounds.Range{Lo: product(lo, b.Lo), Hi: product(hi, b.Hi)}
				if got := Times(a, b); got != want || Times(b, a) != want {
					t.Errorf("Times(%v, %v) = %v, and %v the other way; want %v", a, b, got, Times(b, a), want)
				}
			}
		}
	}
}

// P12.1: results by the words of the promise.
func TestAddTimesExamples(t *testing.T) {
	const max, most = api.MaxSize, math.MaxUint64
	for _, x := range []struct{ a, b, add, times bounds.Range }{
		{bounds.Range{}, bounds.Range{}, bounds.Range{}, bounds.Range{}},
		{bounds.Range{Lo: 1, Hi: 2}, bounds.Range{Lo: 10, Hi: 30}, bounds.Range{Lo: 11, Hi: 32}, bounds.Range{Lo: 10, Hi: 60}},
		{bounds.Range{Lo: 0, Hi: max}, bounds.Range{Lo: 1, Hi: 1}, bounds.Range{Lo: 1, Hi: max}, bounds.Range{Lo: 0, Hi: max}},
		{bounds.Range{Lo: max - 1, Hi: max - 1}, bounds.Range{Lo: 1, Hi: 2}, bounds.Range{Lo: max, Hi: max}, bounds.Range{Lo: max - 1, Hi: max}},
		{bounds.Range{Lo: max - 1, Hi: max - 2}, bounds.Range{Lo: 0, Hi: 1}, bounds.Range{Lo: max - 1, Hi: max - 1}, bounds.Range{Lo: 0, Hi: max - 2}},
		{bounds.Range{Lo: 0, Hi: most}, bounds.Range{Lo: 0, Hi: 0}, bounds.Range{Lo: 0, Hi: max}, bounds.Range{Lo: 0, Hi: 0}},
		{bounds.Range{Lo: most, Hi: most}, bounds.Range{Lo: 1, Hi: most}, bounds.Range{Lo: max, Hi: max}, bounds.Range{Lo: max, Hi: max}},
		{bounds.Range{Lo: 1 << 32, Hi: 1 << 63}, bounds.Range{Lo: 1 << 32, Hi: 2}, bounds.Range{Lo: 1 << 33, Hi: max}, bounds.Range{Lo: max, Hi: max}},
		{bounds.Range{Lo: 1 << 20, Hi: 1 << 20}, bounds.Range{Lo: 1<<20 - 1, Hi: 1 << 20}, bounds.Range{Lo: 1<<21 - 1, Hi: 1 << 21}, bounds.Range{Lo: max - 1<<20, Hi: max}},
		{bounds.Range{Lo: 2, Hi: 1}, bounds.Range{Lo: 9, Hi: 3}, bounds.Range{Lo: 11, Hi: 4}, bounds.Range{Lo: 18, Hi: 3}},
	} {
		if got := Add(x.a, x.b); got != x.add {
			t.Errorf("Add(%v, %v) = %v; want %v", x.a, x.b, got, x.add)
		}
		if got := Times(x.a, x.b); got != x.times {
			t.Errorf("Times(%v, %v) = %v; want %v", x.a, x.b, got, x.times)
		}
	}
}

// wrongFile is a File, or none, whose names are not correct.
type wrongFile struct {
	f    *parse.File
	name string
	err  api.Errno
}

func wrongFiles(t *testing.T) []wrongFile {
	t.Helper()
	list := []wrongFile{{nil, "", api.ErrNil}, {&parse.File{}, "", api.ErrNone}, {&parse.File{Structs: []parse.Struct{{}}}, "", api.ErrForm}}
	for _, x := range []struct {
		s, name string
		err     api.Errno
	}{
		{"", "", api.ErrNone},
		{"const K = 1;", "", api.ErrNone},
		{"const K = 1; const K = 2; struct S { }", "K", api.ErrThere},
		{"struct S(p) { }", "S", api.ErrArg},
		{"struct S { a: bytes[n]; }", "n", api.ErrNone},
		{"struct S { a: bytes[a]; }", "a", api.ErrNone},
		{"struct S { a: S; }", "S", api.ErrNone},
		{"struct S { a: T; } struct T { }", "T", api.ErrNone},
		{"struct T(p) { } struct S { a: T; }", "T", api.ErrArg},
		{"struct S { a: u8; a: u8; }", "a", api.ErrThere},
		{"struct S { pack u8 { x: 3; y: 4; } }", "x", api.ErrArg},
		{"struct S { pack u8 { x: 1048577; } }", "x", api.ErrArg},
		{"struct S { a: u8; c: u32be = crc32(a..a); b: bytes[c]; }", "c", api.ErrNone},
		{"struct S { n: u8; s: switch (n) { case 1: none; case 1: tail; }; }", "s", api.ErrThere},
		// What Empty would tell of otherwise.
		{"struct S { a: rest none; b: bytes[n]; }", "n", api.ErrNone},
		{"struct S { a: rest none; } struct S { }", "S", api.ErrThere},
		{"struct S { a: rest x; }", "x", api.ErrNone},
		{"struct T { } struct S(p) { a: T[p]; }", "S", api.ErrArg},
	} {
		list = append(list, wrongFile{parsed(t, x.s), x.name, x.err})
	}
	for _, spoil := range spoilers() {
		f := parsed(t, spoiled)
		spoil(f)
		list = append(list, wrongFile{f, "", api.ErrForm})
	}
	return list
}

const spoiled = "const K = 3; struct T(p) { a: bytes[p]; } struct S { n: u8; pack u8 { x: 3; y: 5; } a: T(K)[n]; b: rest switch (n) { case 1: u8; else: none; }; }"

// spoilers make a File one that no text is parsed as.
func spoilers() []func(*parse.File) {
	list := []func(*parse.File){
		func(f *parse.File) { f.Consts[0].Name = "struct" },
		func(f *parse.File) { f.Structs[1].Items[1].Subs[0].Bits = -1 },
		func(f *parse.File) { f.Structs[1].Items[1].Subs = nil },
		func(f *parse.File) { f.Structs[1].Items[1].Size = 5 },
		func(f *parse.File) { f.Structs[1].Items = append(f.Structs[1].Items, parse.Item{Name: "z"}) },
		func(f *parse.File) { f.Types = append(f.Types, f.Types[1]) },
		func(f *parse.File) { f.Types = f.Types[:3] },
		func(f *parse.File) { f.Exprs = f.Exprs[:1] },
		func(f *parse.File) { f.Types[1].Size = math.MinInt },
	}
	for _, n := range []int{math.MinInt, -2, -1, 0, 1, 2, 3, 4, 5, 6, 7, 8, 9, math.MaxInt} {
		list = append(list,
			func(f *parse.File) { f.Types[0].Kind, f.Types[0].Size = parse.TypeKind(n), 9 },
			func(f *parse.File) { spoil(&f.Structs[1].Items[0].Type, n) },
			func(f *parse.File) { spoil(&f.Structs[1].Items[3].Type, n) },
			func(f *parse.File) { spoil(&f.Types[0].Expr, n) },
			func(f *parse.File) { spoil(&f.Types[3].Inner, n) },
			func(f *parse.File) { spoil(&f.Types[7].Inner, n) },
			func(f *parse.File) { spoil(&f.Types[6].Inner, n) },
			func(f *parse.File) { spoil(&f.Types[6].Cases[0].Type, n) })
	}
	return list
}

// spoil changes a number to another one, or, if that is no change, to one that is none.
func spoil(place *int, n int) {
	if *place == n {
		n = -9
	}
	*place = n
}

// P12.2 and P12.3: files whose names are not correct.
func TestWrongNames(t *testing.T) {
	for _, x := range wrongFiles(t) {
		if u, err := Of(x.f); err != x.err || len(u.Types) != 0 || len(u.Structs) != 0 {
			t.Errorf("Of(%+v) = %v, %v; want %v", x.f, u, err, x.err)
		}
		if name, err := Empty(x.f); name != x.name || err != x.err {
			t.Errorf("Empty(%+v) = %q, %v; want %q, %v", x.f, name, err, x.name, x.err)
		}
	}
}
