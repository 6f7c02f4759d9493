package expr

import (
	"fmt"
	"math/big"
	"math/rand"
	"slices"
	"testing"

	"calliper/api"
	"calliper/parse"
)

// greatest is the greatest number of 64 bits.
func greatest() *big.Int { return new(big.Int).SetUint64(most) }

func truth(b bool) *big.Int {
	if b {
		return big.NewInt(1)
	}
	return new(big.Int)
}

// exact is the result of an operator by exact arithmetic.
func exact(op string, a, b *big.Int) (*big.Int, api.Errno) {
	n, order := new(big.Int), a.Cmp(b)
	switch op {
	case "+":
		n.Add(a, b)
	case "-":
		n.Sub(a, b)
	case "*":
		n.Mul(a, b)
	case "/", "%":
		if b.Sign() == 0 {
			return nil, api.ErrZero
		}
		quotient, rest := new(big.Int).QuoRem(a, b, new(big.Int))
		if n = quotient; op == "%" {
			n = rest
		}
	case "<<", ">>":
		if b.Cmp(big.NewInt(63)) > 0 {
			return nil, api.ErrNum
		}
		if n.Lsh(a, uint(b.Uint64())); op == ">>" {
			n.Rsh(a, uint(b.Uint64()))
		}
	case "&":
		n.And(a, b)
	case "|":
		n.Or(a, b)
	case "&&":
		n = truth(a.Sign() != 0 && b.Sign() != 0)
	case "||":
		n = truth(a.Sign() != 0 || b.Sign() != 0)
	default:
		n = truth(order == 0 && slices.Contains([]string{"==", "<=", ">="}, op) ||
			order < 0 && slices.Contains([]string{"!=", "<", "<="}, op) ||
			order > 0 && slices.Contains([]string{"!=", ">", ">="}, op))
	}
	if n.Sign() < 0 || n.Cmp(greatest()) > 0 {
		return nil, api.ErrNum
	}
	return n, api.OK
}

// tree is an expression of its own, with what it has to evaluate to.
type tree struct {
	text string
	n    *big.Int
	err  api.Errno
}

// grower makes expressions by chance.
type grower struct {
	*rand.Rand
	env map[string]uint64
}

func (g *grower) number() uint64 {
	return []uint64{0, 1, 2, 3, 63, 64, most, most - 1, uint64(g.Intn(256)), g.Uint64()}[g.Intn(10)]
}

func (g *grower) leaf() tree {
	if g.Intn(2) == 0 {
		n := g.number()
		return tree{text: fmt.Sprint(n), n: new(big.Int).SetUint64(n)}
	}
	name := []string{"a", "b", "c", "d", "e", "f"}[g.Intn(6)]
	if n, ok := g.env[name]; ok {
		return tree{text: name, n: new(big.Int).SetUint64(n)}
	}
	return tree{text: name, err: api.ErrNone}
}

func (g *grower) grow(deep int) tree {
	kind := g.Intn(5)
	if deep == 0 || kind == 0 {
		return g.leaf()
	}
	if kind == 1 {
		x := g.grow(deep - 1)
		x.text = "!(" + x.text + ")"
		if x.err == api.OK {
			x.n = truth(x.n.Sign() == 0)
		}
		return x
	}
	a, b := g.grow(deep-1), g.grow(deep-1)
	op := operators()[g.Intn(len(operators()))]
	x := tree{text: "(" + a.text + ") " + op + " (" + b.text + ")", err: a.err}
	if a.err == api.OK {
		x.err = b.err
	}
	if x.err == api.OK {
		x.n, x.err = exact(op, a.n, b.n)
	}
	return x
}

// P10.2: expressions by chance, against exact arithmetic on their trees.
func TestByChance(t *testing.T) {
	seen := map[api.Errno]int{}
	for seed := range int64(20000) {
		g := &grower{rand.New(rand.NewSource(seed)), map[string]uint64{}}
		var e Env
		for _, name := range []string{"a", "b", "c", "a", "d", "e"} {
			g.env[name] = g.number()
			e = e.With(name, g.env[name])
		}
		x := g.grow(1 + g.Intn(6))
		n := uint64(0)
		if x.err == api.OK {
			n = x.n.Uint64()
		}
		if checkText(t, x.text, e, n, x.err); t.Failed() {
			return
		}
		seen[x.err]++
	}
	for _, err := range []api.Errno{api.OK, api.ErrNone, api.ErrNum, api.ErrZero} {
		if seen[err] < 200 {
			t.Errorf("only %d of the expressions are %v", seen[err], err)
		}
	}
}

// meant is what a list of expressions evaluates to, by the words of the chapter.
func meant(list []parse.Expr, at int, e Env) (uint64, api.Errno) {
	x := list[at]
	var operands []uint64
	if x.Kind == parse.Not || x.Kind == parse.Bin {
		for _, kid := range x.Kids {
			n, err := meant(list, kid, e)
			if err != api.OK {
				return 0, err
			}
			operands = append(operands, n)
		}
	}
	switch x.Kind {
	case parse.Num:
		return x.N, api.OK
	case parse.Name:
		for i := len(e) - 1; i >= 0; i-- {
			if e[i].Name == x.Name {
				return e[i].N, api.OK
			}
		}
		return 0, api.ErrNone
	case parse.Not:
		return truth(operands[0] == 0).Uint64(), api.OK
	}
	if !slices.Contains(operators(), x.Op) {
		return 0, api.ErrForm
	}
	n, err := exact(x.Op, new(big.Int).SetUint64(operands[0]), new(big.Int).SetUint64(operands[1]))
	if err != api.OK {
		return 0, err
	}
	return n.Uint64(), api.OK
}

// fine reports whether an expression is evaluable, by the words of the chapter.
func fine(list []parse.Expr, at int) bool {
	if at < 0 || at >= len(list) {
		return false
	}
	x := list[at]
	switch {
	case x.Kind == parse.Num || x.Kind == parse.Name:
		return true
	case x.Kind == parse.Not && len(x.Kids) != 1, x.Kind == parse.Bin && len(x.Kids) != 2, x.Kind != parse.Not && x.Kind != parse.Bin:
		return false
	}
	return !slices.ContainsFunc(x.Kids, func(kid int) bool { return kid >= at || !fine(list, kid) })
}

// P10.2: lists of expressions by chance, which share operands, stand in any order, and
// are in part not evaluable.
func TestListsByChance(t *testing.T) {
	seen := map[api.Errno]int{}
	for seed := range int64(20000) {
		g := &grower{Rand: rand.New(rand.NewSource(seed))}
		var list []parse.Expr
		for i := range 1 + g.Intn(12) {
			x := parse.Expr{Kind: parse.ExprKind(g.Intn(4)), N: g.number(), Name: string(rune('a' + g.Intn(4)))}
			x.Op = append(operators(), "?")[g.Intn(18)]
			for range int(x.Kind) - 1 {
				x.Kids = append(x.Kids, g.Intn(max(i, 1)))
			}
			switch g.Intn(60) {
			case 0:
				x.Kind = parse.ExprKind(g.Intn(8) - 2)
			case 1:
				x.Kids = append(x.Kids, g.Intn(14)-1)
			case 2:
				x.Kids = []int{g.Intn(14) - 1, g.Intn(14) - 1}
			}
			list = append(list, x)
		}
		e := Env{{"a", g.number()}, {"b", g.number()}, {"a", g.number()}, {"c", g.number()}}
		for at := range list {
			n, err := uint64(0), api.ErrArg
			if fine(list, at) {
				n, err = meant(list, at, e)
			}
			if checkEval(t, file(list...), at, e, n, err); t.Failed() {
				t.Logf("%+v with %v", list, e)
				return
			}
			seen[err]++
		}
	}
	for _, err := range []api.Errno{api.OK, api.ErrNone, api.ErrNum, api.ErrZero, api.ErrForm, api.ErrArg} {
		if seen[err] < 200 {
			t.Errorf("only %d of the expressions are %v", seen[err], err)
		}
	}
}

// P10.3: environments that give the names of an expression the same numbers, or none,
// give it the same value, whatever else is in them.
func TestSameNumbers(t *testing.T) {
	for seed := range int64(5000) {
		g := &grower{rand.New(rand.NewSource(seed)), map[string]uint64{"a": 0, "b": 1, "c": 2, "d": most}}
		x := g.grow(5)
		e := Env{{"a", 0}, {"b", 1}, {"c", 2}, {"d", most}}
		n, err := uint64(0), x.err
		if err == api.OK {
			n = x.n.Uint64()
		}
		for range 4 {
			g.Shuffle(len(e), func(i, j int) { e[i], e[j] = e[j], e[i] })
			other := Env{{"d", 4}, {"a", g.Uint64()}, {"b", 5}}
			other = append(other, e...)
			other = append(other, Var{"g", g.Uint64()}, Var{"", 1}, Var{"A", 3}, Var{"a ", 3})
			if checkText(t, x.text, other, n, err); t.Failed() {
				return
			}
		}
	}
}

// P10.3: where an expression stands, and what the same names are in the text around it,
// makes no difference.
func TestSameElsewhere(t *testing.T) {
	e := Env{{"n", 3}, {"m", 10}}
	for _, s := range []string{
		"const n = 7; struct S { a: bytes[m - n * 2]; }",
		"struct T(n, m) { a: T(n, 1)[m - n * 2]; }",
		"struct S { n: u8 where m - n * 2; m: u8; }",
		"struct S { b: bytes[m + n]; a: rest window[m - n * 2] tail; }",
		"struct S { a: switch (m - n * 2) { case 1: bytes[m]; }; }",
		"struct S { a: window[0] at[m - n * 2] none where 0; }",
	} {
		f := parsed(t, s)
		at := slices.IndexFunc(f.Exprs, func(x parse.Expr) bool { return x.Op == "-" })
		checkEval(t, f, at, e, 4, api.OK)
		checkEval(t, f, at, e.With("n", 6), 0, api.ErrNum)
	}
}
