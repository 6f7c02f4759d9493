package bounds

import (
	"fmt"
	"math/rand"
	"slices"
	"testing"

	"calliper/api"
	"calliper/expr"
	"calliper/parse"
	"calliper/word"
)

// meantOf is what Of returns for an expression of a list, by the words of the chapters.
func meantOf(list []parse.Expr, at int, vars []Var) (Range, bool) {
	x := list[at]
	switch x.Kind {
	case parse.Num:
		return Range{x.N, x.N}, true
	case parse.Name:
		for i := len(vars) - 1; i >= 0; i-- {
			if vars[i].Name == x.Name {
				return vars[i].Range, vars[i].Range.Lo <= vars[i].Range.Hi
			}
		}
		return Range{}, false
	}
	a, ok := meantOf(list, x.Kids[0], vars)
	if !ok {
		return Range{}, false
	}
	if x.Kind == parse.Not && a.Lo != 0 {
		return Range{0, 0}, true
	} else if x.Kind == parse.Not && a.Hi == 0 {
		return Range{1, 1}, true
	} else if x.Kind == parse.Not {
		return Range{0, 1}, true
	}
	b, ok := meantOf(list, x.Kids[1], vars)
	if !ok {
		return Range{}, false
	}
	return meant(x.Op, a, b)
}

// fine reports whether an expression is evaluable, by the words of layer 10.
func fine(list []parse.Expr, at int) bool {
	if at < 0 || at >= len(list) {
		return false
	}
	x := list[at]
	switch {
	case x.Kind == parse.Num || x.Kind == parse.Name:
		return true
	case x.Kind == parse.Not && len(x.Kids) != 1, x.Kind == parse.Bin && len(x.Kids) != 2, x.Kind != parse.Not && x.Kind != parse.Bin:
		return false
	}
	return !slices.ContainsFunc(x.Kids, func(kid int) bool { return kid >= at || !fine(list, kid) })
}

// grower makes expressions and ranges by chance.
type grower struct{ *rand.Rand }

func (g grower) number() uint64 {
	return []uint64{0, 1, 2, 3, 63, 64, most, most - 1, uint64(g.Intn(256)), g.Uint64() >> g.Intn(64)}[g.Intn(10)]
}

// valid makes a valid range, often of few numbers.
func (g grower) valid() Range {
	lo, hi := g.number(), g.number()
	switch g.Intn(4) {
	case 0:
		return Range{lo, lo}
	case 1:
		return Range{lo, lo + min(uint64(g.Intn(9)), most-lo)}
	}
	return Range{min(lo, hi), max(lo, hi)}
}

func (g grower) list() []parse.Expr {
	var list []parse.Expr
	for i := range 1 + g.Intn(12) {
		x := parse.Expr{Kind: parse.ExprKind(g.Intn(4)), N: g.number(), Name: string(rune('a' + g.Intn(4)))}
		x.Op = append(operators(), "?")[g.Intn(18)]
		for range int(x.Kind) - 1 {
			x.Kids = append(x.Kids, g.Intn(max(i, 1)))
		}
		switch g.Intn(60) {
		case 0:
			x.Kind = parse.ExprKind(g.Intn(8) - 2)
		case 1:
			x.Kids = append(x.Kids, g.Intn(14)-1)
		case 2:
			x.Kids = []int{g.Intn(14) - 1, g.Intn(14) - 1}
		}
		list = append(list, x)
	}
	return list
}

// P11.3: lists of expressions by chance, which share operands, stand in any order, and
// are in part not evaluable.
func TestListsByChance(t *testing.T) {
	seen := [3]int{}
	for seed := range int64(20000) {
		g := grower{rand.New(rand.NewSource(seed))}
		list := g.list()
		vars := []Var{{"a", g.valid()}, {"b", g.valid()}, {"a", g.valid()}, {"c", g.valid()}}
		if v := &vars[g.Intn(4)]; g.Intn(8) == 0 && v.Range.Lo > 0 {
			v.Range.Hi = v.Range.Lo - 1
		}
		for at := range list {
			want, ok, kind := Range{}, false, 0
			if fine(list, at) {
				want, ok = meantOf(list, at, vars)
				kind = 1 + int(word.Truth(ok))
			}
			if !ok {
				want = Range{}
			}
			if checkAt(t, file(list...), at, vars, want, ok); t.Failed() {
				t.Logf("%+v", list)
				return
			}
			seen[kind]++
		}
	}
	for kind, n := range seen {
		if n < 1000 {
			t.Errorf("only %d of the expressions are of kind %d", n, kind)
		}
	}
}

// tree makes the text of an expression with the names a to d.
func (g grower) tree(deep int) string {
	switch kind := g.Intn(5); {
	case deep == 0 && kind < 2:
		return fmt.Sprint(g.number())
	case deep == 0 || kind == 0:
		return string(rune('a' + g.Intn(4)))
	case kind == 1:
		return "!(" + g.tree(deep-1) + ")"
	}
	return "(" + g.tree(deep-1) + ") " + operators()[g.Intn(17)] + " (" + g.tree(deep-1) + ")"
}

// some returns a number of a valid range, often one of its edges.
func (g grower) some(r Range) uint64 {
	switch g.Intn(4) {
	case 0:
		return r.Lo
	case 1:
		return r.Hi
	}
	if r == (Range{0, most}) {
		return g.Uint64()
	}
	return r.Lo + g.Uint64()%(r.Hi-r.Lo+1)
}

// P11.4: whatever numbers the names have, layer 10's number lies in the range; where
// there is no range, layer 10 has no number.
func TestSound(t *testing.T) {
	seen := [3]int{}
	for seed := range int64(20000) {
		g := grower{rand.New(rand.NewSource(seed))}
		f := parsed(t, "struct S { a: bytes["+g.tree(1+g.Intn(4))+"]; }")
		var vars []Var
		for _, s := range []string{"a", "b", "c", "a", "d"} {
			vars = append(vars, Var{s, g.valid()})
		}
		r, ok := Of(f, f.Types[0].Expr, vars)
		if ok && r.Lo > r.Hi {
			t.Fatalf("%s with %v: %v", f.Exprs[f.Types[0].Expr].Op, vars, r)
		}
		for range 40 {
			var e expr.Env
			for _, v := range vars {
				e = e.With(v.Name, g.some(v.Range))
			}
			n, err := expr.Eval(f, f.Types[0].Expr, e)
			if err == api.OK && (!ok || !r.Has(n)) {
				t.Fatalf("seed %d with %v is %d; %v, %t", seed, e, n, r, ok)
			}
			seen[word.Truth(err == api.OK)+word.Truth(ok)]++
		}
	}
	for kind, n := range seen {
		if n < 20000 {
			t.Errorf("only %d of the cases are of kind %d", n, kind)
		}
	}
}

// P11.4: if all ranges are points, so is what has a number, and it is this number.
func TestSoundPoints(t *testing.T) {
	numbers := 0
	for seed := range int64(20000) {
		g := grower{rand.New(rand.NewSource(seed))}
		f := parsed(t, "struct S { a: bytes["+g.tree(1+g.Intn(5))+"]; }")
		var vars []Var
		var e expr.Env
		for _, s := range []string{"a", "b", "c", "a", "d"} {
			n := g.number()
			vars, e = append(vars, Var{s, Point(n)}), e.With(s, n)
		}
		n, err := expr.Eval(f, f.Types[0].Expr, e)
		want := Range{n, n}
		if checkAt(t, f, f.Types[0].Expr, vars, want, err == api.OK); t.Failed() {
			return
		}
		numbers += int(word.Truth(err == api.OK))
	}
	if numbers < 4000 {
		t.Errorf("only %d of the expressions have numbers", numbers)
	}
}

// P11.4: every number of every two ranges in short stretches of numbers.
func TestSoundOps(t *testing.T) {
	stretches := [][]uint64{{0, 1, 2, 3, 4, 5}, {61, 62, 63, 64, 65}, {1<<32 - 1, 1 << 32, 1<<32 + 1}, {1<<63 - 1, 1 << 63, 1<<63 + 1}, {most - 2, most - 1, most}}
	for _, op := range operators() {
		for _, as := range stretches {
			for _, bs := range stretches {
				checkSound(t, op, as, bs)
			}
		}
	}
}

// checkSound checks an operator on all ranges in two stretches of numbers.
func checkSound(t *testing.T, op string, as, bs []uint64) {
	t.Helper()
	for _, a := range pairs(as) {
		for _, b := range pairs(bs) {
			r, ok := Op(op, a, b)
			for _, x := range as {
				for _, y := range bs {
					n, err := word.Op(op, x, y)
					if a.Has(x) && b.Has(y) && err == api.OK && (!ok || !r.Has(n)) {
						t.Fatalf("%d %s %d is %d; Op(.., %v, %v) = %v, %t", x, op, y, n, a, b, r, ok)
					}
				}
			}
		}
	}
}
