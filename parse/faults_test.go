package parse

import (
	"math/rand"
	"slices"
	"strings"
	"testing"

	"calliper/api"
	"calliper/lex"
)

// grammar is the chapter's grammar, where each { } and [ ] has a name of its own.
const grammar = `
file     = decls End
decls    =
decls    = decls const
decls    = decls struct
const    = "const" name "=" Number ";"
struct   = "struct" name params "{" items "}"
params   =
params   = "(" names ")"
names    = name
names    = names "," name
items    =
items    = items item
item     = "pack" integer "{" subs "}"
item     = name ":" type derived where ";"
subs     = sub
subs     = subs sub
sub      = name ":" Number ";"
derived  =
derived  = "=" "sizeof" "(" name ")"
derived  = "=" "countof" "(" name ")"
derived  = "=" "crc32" "(" name ".." name ")"
derived  = "=" "adler32" "(" name ".." name ")"
where    =
where    = "where" expr
type     = integer array
type     = name args array
type     = "bytes" "[" expr "]"
type     = "zero" "[" expr "]"
type     = "skip" "[" expr "]"
type     = "window" "[" expr "]" type
type     = "at" "[" expr "]" type
type     = "rest" type
type     = "tail"
type     = "none"
type     = "switch" "(" expr ")" "{" cases else "}"
array    =
array    = "[" expr "]"
args     =
args     = "(" exprs ")"
exprs    = expr
exprs    = exprs "," expr
cases    =
cases    = cases "case" Number ":" type ";"
else     =
else     = "else" ":" type ";"
expr     = unary
expr     = expr operator unary
unary    = "!" unary
unary    = "(" expr ")"
unary    = Number
unary    = name
`

type rule struct {
	left  string
	right []string
}

// rules are the rules of the grammar, and the texts that begin one.
func rules() ([]rule, map[string]bool) {
	var all []rule
	known := map[string]bool{}
	for _, line := range strings.Split(strings.TrimSpace(grammar), "\n") {
		words := strings.Fields(line)
		all = append(all, rule{words[0], words[2:]})
		known[words[0]] = true
	}
	return all, known
}

// fits reports whether a token is what stands in a rule.
func fits(t lex.Token, symbol string) bool {
	has := func(list string) bool { return slices.Contains(strings.Fields(list), t.Text) }
	switch symbol {
	case "End":
		return t.Kind == lex.End
	case "Number":
		return t.Kind == lex.Number
	case "integer":
		return has(allIntegers)
	case "operator":
		return has(allOperators)
	case "name":
		return t.Kind == lex.Word && !has(allIntegers) && !has(allOthers)
	}
	return t.Kind != lex.End && symbol == `"`+t.Text+`"`
}

// step is a rule that is read as far as dot, since the token number from.
type step struct {
	rule, dot, from int
}

// closed are the steps of the last place, with all that begin or end there. A
// rule that is empty lets what needs it go on at once, as it ends where it begins.
func closed(all []rule, known map[string]bool, sets [][]step) []step {
	here := len(sets) - 1
	set := sets[here]
	seen := map[step]bool{}
	add := func(s step) {
		if !seen[s] {
			seen[s] = true
			set = append(set, s)
		}
	}
	for i := 0; i < len(set); i++ {
		s := set[i]
		right := all[s.rule].right
		if s.dot == len(right) && s.from < here {
			for _, before := range sets[s.from] {
				if after := all[before.rule].right[before.dot:]; len(after) > 0 && after[0] == all[s.rule].left {
					add(step{before.rule, before.dot + 1, before.from})
				}
			}
		}
		if s.dot == len(right) || !known[right[s.dot]] {
			continue
		}
		for j, r := range all {
			if r.left == right[s.dot] {
				add(step{j, 0, here})
				if len(r.right) == 0 {
					add(step{s.rule, s.dot + 1, s.from})
				}
			}
		}
	}
	return set
}

// wrong is the index of the first of the tokens with which no file goes on: they
// are read by all rules at once. It is -1 if they are a file.
func wrong(l []lex.Token) int {
	all, known := rules()
	sets := [][]step{{{0, 0, 0}}}
	for i, t := range l {
		sets[i] = closed(all, known, sets)
		var next []step
		for _, s := range sets[i] {
			right := all[s.rule].right
			if s.dot < len(right) && fits(t, right[s.dot]) {
				next = append(next, step{s.rule, s.dot + 1, s.from})
			}
		}
		if next == nil {
			return i
		}
		sets = append(sets, next)
	}
	return -1
}

// checkToken holds that the error is at the token with this index; if it is
// negative, it counts from the End.
func checkToken(t *testing.T, s string, at int, err api.Errno) {
	t.Helper()
	l := lexed(t, s)
	if at < 0 {
		at += len(l)
	}
	checkFault(t, s, l[at].Pos, err)
}

// checkForm holds Parse against the grammar.
func checkForm(t *testing.T, s string) {
	t.Helper()
	l := lexed(t, s)
	if at := wrong(l); at < 0 {
		checkFault(t, s, lex.Pos{}, api.OK)
	} else {
		checkFault(t, s, l[at].Pos, api.ErrForm)
	}
}

// vocabulary are texts of all kinds of tokens.
func vocabulary() []string {
	l := strings.Fields(allIntegers + " " + allOthers + " " + allOperators + " ! = .. { } ( ) [ ] ; : , 7 0x10 n u9 Const")
	return append(l, "")
}

// P7.1: which token goes on after the beginnings of descriptions, for all kinds
// of tokens.
func TestParseNextToken(t *testing.T) {
	for _, s := range []string{
		"const K = 1; struct S(p, q) { pack u8 { x: 1; y: 7; } } const L = 2; struct T { }",
		"struct S { a: u16be = sizeof(b) where !a && (b == 1) ; b: T(1, n)[2] = countof(c); c: T; }",
		"struct S { a: u32be[2] = crc32(a..b); b: window[n] at[1] rest tail = adler32(a..b) where !!1; c: zero[1]; d: skip[1]; e: bytes[1]; f: none; }",
		"struct S { a: switch (1 + n) { case 1: rest u8[1]; case 2: switch (n) { else: T(1)[1]; }; else: at[1] switch (2) { }; }; }",
	} {
		words := strings.Split(lex.Join(lexed(t, s)), " ")
		for i := range words {
			for _, next := range vocabulary() {
				checkForm(t, strings.Join(words[:i], "\n")+" "+next)
			}
			checkForm(t, strings.Join(slices.Delete(slices.Clone(words), i, i+1), " "))
			if t.Failed() {
				return
			}
		}
	}
}

// P7.1: walks by chance through the grammar. So few tokens do not go too deep.
func TestParseWalks(t *testing.T) {
	all := vocabulary()
	for i := range int64(60) {
		r := rand.New(rand.NewSource(i))
		words := strings.Fields("struct S { a :")
		for len(words) < 36 {
			next := all[r.Intn(len(all)-1)]
			s := strings.Join(append(words, next), " ")
			if checkForm(t, s); t.Failed() {
				return
			}
			if wrong(lexed(t, s)) == len(words)+1 {
				words = append(words, next)
			}
		}
	}
}

// P7.1: the errors of layer 6 come ahead of all others.
func TestParseLexErrors(t *testing.T) {
	checkFault(t, "x\n @", lex.Pos{Line: 2, Col: 2}, api.ErrForm)
	checkFault(t, "x 18446744073709551616", lex.Pos{Line: 1, Col: 3}, api.ErrNum)
	checkFault(t, "struct S { "+strings.Repeat("a", api.MaxWord+1)+": u8; }", lex.Pos{Line: 1, Col: 12}, api.ErrLong)
	checkFault(t, strings.Repeat("x", api.MaxText+1), lex.Pos{Line: 1, Col: 1}, api.ErrLong)
	checkFault(t, "struct S { }"+strings.Repeat(" ", api.MaxText-12), lex.Pos{}, api.OK)
	checkFault(t, "struct S { }"+strings.Repeat(" ", api.MaxText-11), lex.Pos{Line: 1, Col: 1}, api.ErrLong)
	checkFault(t, "struct S {"+strings.Repeat("\n", api.MaxText-11)+"x", lex.Pos{Line: api.MaxText - 10, Col: 2}, api.ErrForm)
}

// openings are what begins the constructs that go too deep, and what ends them.
// back is how many tokens of the last one stand behind the first that is too deep.
var openings = []struct {
	before, open, inside, end, after string
	back                             int
}{
	{"", "rest ", "u8", "", "", 0},
	{"", "window[1] ", "u8[3]", "", "", 0},
	{"", "window[(1)] ", "T(1)[1]", "", "", 3},
	{"", "at[1] ", "bytes[n]", "", "", 0},
	{"", "at[!1] ", "switch (1) { }", "", "", 2},
	{"", "switch (1) { case 1: ", "tail", "; }", "", 0},
	{"", "switch (1) { case 1: none; case 2: ", "u8", "; else: u8; }", "", 5},
	{"", "switch (1) { else: ", "none", "; }", "", 0},
	{"", "switch ((1)) { else: ", "none", "; }", "", 6},
	{"u8[", "(", "1", ")", "]", 0},
	{"u8[", "!", "n", "", "]", 0},
	{"u8[", "1 + (", "n", ")", "]", 0},
	{"u8[", "1 + (2 * 3) - (", "n + 1", ")", "]", 6},
	{"u8[", "!1 || (", "n", ")", "]", 3},
	{"window[", "(", "n", ")", "] none", 0},
	{"T(", "(", "n", ") + 1", ")", 0},
	{"T(1, ", "(", "n", ")", ")[1]", 0},
	{"switch (", "!", "1", "", ") { }", 0},
	{"bytes[1] where ", "(", "1", ")", "", 0},
}

// P7.1: as much as may enclose a token, and one more. The token that is too deep
// is the first one inside.
func TestParseDeep(t *testing.T) {
	for _, x := range openings {
		open := "struct S { a: " + x.before + strings.Repeat(x.open, api.MaxDepth)
		checkFault(t, open+x.inside+strings.Repeat(x.end, api.MaxDepth)+x.after+"; b: u8; }", lex.Pos{}, api.OK)
		open += x.open
		at := len(lexed(t, open)) - 1 - x.back
		checkToken(t, open+x.inside+strings.Repeat(x.end, api.MaxDepth+1)+x.after+"; b: u8; }", at, api.ErrDeep)
		if x.back == 0 {
			// What cannot begin an operand or a type is so ahead of its being too deep.
			checkToken(t, open+"]", at, api.ErrForm)
			checkToken(t, open+"*"+x.inside, at, api.ErrForm)
			checkToken(t, open, at, api.ErrForm)
		}
	}
}

// P7.1: constructs of all kinds count alike, and only those that enclose a token.
func TestParseDeepTogether(t *testing.T) {
	most := api.MaxDepth
	for k := range most + 1 {
		open := "struct S { a: " + strings.Repeat("rest ", k)
		checkFault(t, open+"bytes["+strings.Repeat("!", most-k)+"1]; }", lex.Pos{}, api.OK)
		checkToken(t, open+"bytes["+strings.Repeat("!", most-k+1)+"1]; }", 6+k+most-k+2, api.ErrDeep)
		checkFault(t, open+"u8["+strings.Repeat("(", most-k)+"1"+strings.Repeat(")", most-k)+"]; }", lex.Pos{}, api.OK)
		checkToken(t, open+"u8["+strings.Repeat("(", most-k+1)+"1"+strings.Repeat(")", most-k+1)+"]; }", 6+k+most-k+2, api.ErrDeep)
	}
	full := strings.Repeat("(", most) + "1" + strings.Repeat(")", most)
	rest := strings.Repeat("rest ", most)
	checkFault(t, "struct S { a: T("+full+" + "+full+", "+full+")["+full+"] where "+full+"; b: "+rest+"T(1)[2]; c: "+rest+"u8 where "+full+"; }", lex.Pos{}, api.OK)
	checkFault(t, "struct S { a: "+rest+"switch (1) { }; } struct T { b: "+rest+"u8[n * 2]; }", lex.Pos{}, api.OK)
	checkToken(t, "struct S { a: "+rest+"switch (1) { else: none; }; }", 5+most+7, api.ErrDeep)
	checkToken(t, "struct S { a: "+rest+"window[1] u8; }", 5+most+4, api.ErrDeep)
	checkToken(t, "struct S { a: "+rest+"T((1)); }", 5+most+3, api.ErrDeep)
	checkToken(t, "struct S { a: "+rest+"T(!1); }", 5+most+3, api.ErrDeep)
}

// crowds are the lists that can be full: what is before them, their members, what
// stands between, what is after, and what is no member.
var crowds = []struct {
	before, member, between, after, other string
	most                                  int
}{
	{"", "struct S { }", "", "", "S", api.MaxStructs},
	{"", "const K = 1;", "", "", "1", api.MaxStructs},
	{"struct S { ", "a: u8;", "", "}", "u8", api.MaxItems},
	{"struct S { ", "pack u8 { a: 1; }", "", "}", ")", api.MaxItems},
	{"struct S { pack u8 {", "a: 1;", "", "} }", "pack", api.MaxItems},
	{"struct S(", "p", ",", ") { }", "at", api.MaxItems},
	{"struct S { a: T(", "1", ",", "); }", ")", api.MaxItems},
	{"struct S { a: T(", "!(n)", ",", "); }", "u8", api.MaxItems},
	{"struct S { a: switch (1) { ", "case 1: u8;", "", "}; }", "default", api.MaxItems},
	{"struct S { a: rest switch (1) { ", "case 1: u8;", "", "else: u8; }; }", ":", api.MaxItems},
}

// P7.1: as many as there may be, and one more.
func TestParseFull(t *testing.T) {
	for _, x := range crowds {
		all := x.before + strings.Join(slices.Repeat([]string{x.member}, x.most), x.between)
		checkFault(t, all+x.after, lex.Pos{}, api.OK)
		all += x.between
		at := len(lexed(t, all)) - 1
		checkToken(t, all+x.member+x.after, at, api.ErrFull)
		checkToken(t, all+x.member+"]]", at, api.ErrFull)
		// What cannot begin a member is so ahead of there being too many.
		checkToken(t, all+x.other, at, api.ErrForm)
		if x.before != "" {
			checkToken(t, all, at, api.ErrForm)
		}
	}
}

// P7.1: lists of different kinds, and of different owners, are counted apart; the
// first token that is wrong is told.
func TestParseFullApart(t *testing.T) {
	most := strings.Repeat("a: u8; ", api.MaxItems)
	consts := strings.Repeat("const K = 1; ", api.MaxStructs)
	structs := strings.Repeat("struct S { } ", api.MaxStructs-2)
	checkFault(t, consts+"struct S { "+most+"} struct T { "+most+"} "+structs, lex.Pos{}, api.OK)
	half := strings.Repeat("a: u8; pack u8 { x: 1; } ", api.MaxItems/2)
	checkFault(t, "struct S { "+half+"}", lex.Pos{}, api.OK)
	checkToken(t, "struct S { "+half+"b: none; }", len(lexed(t, "struct S { "+half))-1, api.ErrFull)
	checkToken(t, "struct S { "+half+"pack u8 { } }", len(lexed(t, "struct S { "+half))-1, api.ErrFull)
	cases := strings.Repeat("case 1: none; ", api.MaxItems)
	checkFault(t, "struct S { a: switch (1) { "+cases+"else: switch (1) { "+cases+"}; }; b: switch (1) { "+cases+"}; }", lex.Pos{}, api.OK)
	args := strings.Repeat("1, ", api.MaxItems-1) + "1"
	checkFault(t, "struct S { a: T("+args+"); b: T("+args+"); }", lex.Pos{}, api.OK)
	checkToken(t, "struct S { "+most+"b: u8; } struct", 3+4*api.MaxItems, api.ErrFull)
	checkToken(t, "struct S { a; } "+consts+consts, 4, api.ErrForm)
	checkToken(t, consts+"const", len(lexed(t, consts))-1, api.ErrFull)
}

// P7.1 with rule 4: no two lists of a file share memory.
func TestParseMemory(t *testing.T) {
	s := "const K = 1; const L = 2; struct S(p, q) { pack u8 { x: 1; y: 7; } pack u8 { x: 8; } a: T(1, 2); b: T(1 + !2); c: switch (1) { case 1: u8; case 2: u8; }; d: switch (2) { case 3: u8; }; } struct T(p) { a: u8; b: u8; } struct U { b: u8; }"
	f, _, _ := Parse(s)
	before := plain(f)
	n := 0
	spoil := func(l []int) {
		n++
		for i := range l[:cap(l)] {
			l[:cap(l)][i] += 100 * n
		}
		for i := range l {
			l[i] -= 100 * n
		}
	}
	for i := range f.Exprs {
		spoil(f.Exprs[i].Kids)
	}
	for i := range f.Types {
		spoil(f.Types[i].Args)
		_ = append(f.Types[i].Cases, Case{N: 99})
	}
	for i := range f.Structs {
		_ = append(f.Structs[i].Params, "none")
		_ = append(f.Structs[i].Items, Item{Name: "none"})
		for j := range f.Structs[i].Items {
			_ = append(f.Structs[i].Items[j].Subs, Sub{Name: "none"})
		}
	}
	if after := plain(f); after != before {
		t.Errorf("what a list is changed to changes others: %.300s; %.300s", before, after)
	}
	g, _, _ := Parse(s)
	for i := range g.Types {
		g.Types[i], f.Types[i].Kind = Type{}, TypeKinds
	}
	if h, _, _ := Parse(s); plain(h) != before {
		t.Errorf("what a file is changed to changes the next one")
	}
}

// P1: chance texts end, and a file is given just with OK.
func TestParseEnds(t *testing.T) {
	all := vocabulary()
	for i := range int64(3000) {
		r := rand.New(rand.NewSource(i))
		s := "struct S { a: "
		for range r.Intn(40) {
			s += all[r.Intn(len(all))] + " "
		}
		f, p, err := Parse(s)
		if (f == nil) != (err != api.OK) || (p == lex.Pos{}) != (err == api.OK) {
			t.Fatalf("Parse(%q) = %v, %v, %v", s, f, p, err)
		}
	}
}
