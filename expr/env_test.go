package expr

import (
	"math"
	"slices"
	"strings"
	"testing"

	"calliper/parse"
)

func checkGet(t *testing.T, e Env, name string, n uint64, ok bool) {
	t.Helper()
	if got, gotOK := e.Get(name); got != n || gotOK != ok {
		t.Errorf("%v: Get(%.40q) = %d, %t; want %d, %t", e, name, got, gotOK, n, ok)
	}
}

func checkEnv(t *testing.T, got, want Env) {
	t.Helper()
	if !slices.Equal(got, want) {
		t.Errorf("the environment is %v; want %v", got, want)
	}
}

// P10.1
func TestGet(t *testing.T) {
	e := Env{{"n", 3}, {"m", 10}, {"n", 4}, {"o", 0}, {"big", math.MaxUint64}}
	checkGet(t, e, "n", 4, true)
	checkGet(t, e, "m", 10, true)
	checkGet(t, e, "o", 0, true)
	checkGet(t, e, "big", math.MaxUint64, true)
	for _, name := range []string{"", "x", "N", "n ", " n", "nn", "bi", "n\x00", "3", strings.Repeat("n", 1<<20)} {
		checkGet(t, e, name, 0, false)
	}
}

// P10.1: the last one of a name counts, also if its number is 0 or if it stands at the end.
func TestGetLast(t *testing.T) {
	checkGet(t, Env{{"n", 1}, {"n", 2}, {"n", 0}}, "n", 0, true)
	checkGet(t, Env{{"n", 0}, {"n", 2}, {"n", 1}}, "n", 1, true)
	checkGet(t, Env{{"n", 1}, {"n", 2}, {"m", 3}}, "n", 2, true)
	checkGet(t, Env{{"n", 1}, {"m", 3}, {"m", 4}}, "n", 1, true)
	many := slices.Repeat(Env{{"n", 1}, {"m", 2}}, 1000)
	many[1998].N, many[1997].N = 7, 8
	checkGet(t, many, "n", 7, true)
	checkGet(t, many, "m", 2, true)
}

// P10.1: an environment without entries, and names of all kinds.
func TestGetEdges(t *testing.T) {
	checkGet(t, nil, "n", 0, false)
	checkGet(t, nil, "", 0, false)
	checkGet(t, Env{}, "n", 0, false)
	long := strings.Repeat("long", 1<<18)
	for _, name := range []string{"", " ", "\xff\x00", "struct", "u8", "1", "é", long} {
		e := Env{{"n", 1}, {name, 5}, {"m", 2}}
		checkGet(t, e, name, 5, true)
		checkGet(t, e, name+"x", 0, false)
	}
}

// P10.1
func TestWith(t *testing.T) {
	var e Env
	checkEnv(t, e.With("n", 3), Env{{"n", 3}})
	checkEnv(t, Env{}.With("", 0), Env{{"", 0}})
	e = Env{{"n", 3}, {"m", 10}}
	checkEnv(t, e.With("x", math.MaxUint64), Env{{"n", 3}, {"m", 10}, {"x", math.MaxUint64}})
	checkEnv(t, e.With("n", 0), Env{{"n", 3}, {"m", 10}, {"n", 0}})
	checkEnv(t, e.With("m", 10).With("m", 10), Env{{"n", 3}, {"m", 10}, {"m", 10}, {"m", 10}})
	checkGet(t, e.With("n", 0), "n", 0, true)
	checkEnv(t, e, Env{{"n", 3}, {"m", 10}})
}

// P10.1 and rule 4: what With returns shares no memory with anything, and what stands
// behind an argument is left alone.
func TestWithMemory(t *testing.T) {
	whole := Env{{"a", 1}, {"b", 2}, {"c", 3}, {"d", 4}}
	e := whole[:2]
	first := e.With("x", 5)
	second := e.With("y", 6)
	checkEnv(t, whole, Env{{"a", 1}, {"b", 2}, {"c", 3}, {"d", 4}})
	checkEnv(t, first, Env{{"a", 1}, {"b", 2}, {"x", 5}})
	checkEnv(t, second, Env{{"a", 1}, {"b", 2}, {"y", 6}})
	first[0].N, second[1].N = 7, 8
	checkEnv(t, whole, Env{{"a", 1}, {"b", 2}, {"c", 3}, {"d", 4}})
	checkEnv(t, first, Env{{"a", 7}, {"b", 2}, {"x", 5}})
	whole[0].N = 9
	checkEnv(t, second, Env{{"a", 1}, {"b", 8}, {"y", 6}})
	// One that grew by With has no room that two later ones could both use.
	for range 10 {
		first = first.With("z", 0)
		one, other := first.With("x", 1), first.With("x", 2)
		checkGet(t, one, "x", 1, true)
		checkGet(t, other, "x", 2, true)
	}
}

// P10.1
func TestConsts(t *testing.T) {
	checkEnv(t, Consts(nil), nil)
	checkEnv(t, Consts(&parse.File{}), nil)
	checkEnv(t, Consts(parsed(t, "struct S { a: u8; }")), nil)
	f := parsed(t, "const K = 5; struct S(p) { K: u8; } const A = 0xffffffffffffffff; const L = 0;")
	checkEnv(t, Consts(f), Env{{"K", 5}, {"A", math.MaxUint64}, {"L", 0}})
	// They are those of the File, whether or not it could be printed or its names are right.
	checkEnv(t, Consts(parsed(t, "const K = 5; const L = 6; const K = 7;")), Env{{"K", 5}, {"L", 6}, {"K", 7}})
	checkEnv(t, Consts(&parse.File{Consts: []parse.Const{{Name: "", N: 1}, {Name: "u8", N: 2}}}), Env{{"", 1}, {"u8", 2}})
}

// P10.1 and rule 4
func TestConstsMemory(t *testing.T) {
	f := parsed(t, "const K = 5; const L = 6;")
	first, second := Consts(f), Consts(f)
	first[0] = Var{"x", 1}
	checkEnv(t, second, Env{{"K", 5}, {"L", 6}})
	checkEnv(t, Consts(f), Env{{"K", 5}, {"L", 6}})
	f.Consts[1].N = 7
	checkEnv(t, second, Env{{"K", 5}, {"L", 6}})
	checkEnv(t, Consts(f), Env{{"K", 5}, {"L", 7}})
}
