package lex

import (
	"fmt"
	"math"
	"math/big"
	"regexp"
	"slices"
	"strings"
	"testing"

	"calliper/api"
)

const most = math.MaxUint64

// allSigns are the Signs as the chapter lists them.
const allSigns = ".. == != <= >= << >> && || { } ( ) [ ] ; : , = < > + - * / % & | !"

// The chapter's definitions as patterns. A comment that is not ended by a line
// feed ends with the text.
var (
	blankPattern   = regexp.MustCompile(`^(?:[ \t\n\r]|//[^\n]*)*`)
	runPattern     = regexp.MustCompile(`^[A-Za-z_0-9]+`)
	wordPattern    = regexp.MustCompile(`^[A-Za-z_][A-Za-z_0-9]{0,31}$`)
	longPattern    = regexp.MustCompile(`^[A-Za-z_]`)
	decimalPattern = regexp.MustCompile(`^[0-9]+$`)
	hexPattern     = regexp.MustCompile(`^0x[0-9a-fA-F]+$`)
)

// place is the position of an offset, counted byte by byte.
func place(s string, at int) Pos {
	p := Pos{1, 1}
	for i := range at {
		p.Col++
		if s[i] == '\n' {
			p = Pos{p.Line + 1, 1}
		}
	}
	return p
}

// wantRun is the token that a run is.
func wantRun(run string) (Token, api.Errno) {
	n, base := new(big.Int), 0
	switch {
	case wordPattern.MatchString(run):
		return Token{Kind: Word, Text: run}, api.OK
	case longPattern.MatchString(run):
		return Token{}, api.ErrLong
	case decimalPattern.MatchString(run):
		base = 10
	case hexPattern.MatchString(run):
		base = 16
	default:
		return Token{}, api.ErrForm
	}
	if base == 10 {
		n.SetString(run, 10)
	} else {
		n.SetString(run[2:], 16)
	}
	if n.BitLen() > 64 {
		return Token{}, api.ErrNum
	}
	return Token{Kind: Number, Text: run, N: n.Uint64()}, api.OK
}

// wantSign is the longest Sign that s begins with.
func wantSign(s string) (Token, api.Errno) {
	long := ""
	for _, sign := range strings.Fields(allSigns) {
		if strings.HasPrefix(s, sign) && len(sign) > len(long) {
			long = sign
		}
	}
	if long == "" {
		return Token{}, api.ErrForm
	}
	return Token{Kind: Sign, Text: long}, api.OK
}

// wantLex is Lex by the patterns.
func wantLex(s string) ([]Token, Pos, api.Errno) {
	if len(s) > api.MaxText {
		return nil, Pos{1, 1}, api.ErrLong
	}
	var l []Token
	for at := 0; ; {
		at += len(blankPattern.FindString(s[at:]))
		if at == len(s) {
			return append(l, Token{Kind: End, Pos: place(s, at)}), Pos{}, api.OK
		}
		t, err := wantSign(s[at:])
		if run := runPattern.FindString(s[at:]); run != "" {
			t, err = wantRun(run)
		}
		if err != api.OK {
			return nil, place(s, at), err
		}
		t.Pos = place(s, at)
		l = append(l, t)
		at += len(t.Text)
	}
}

// brief tells of the first tokens of a list.
func brief(l []Token) string {
	return fmt.Sprintf("%d tokens %.200q", len(l), fmt.Sprint(l[:min(len(l), 12)]))
}

func checkLex(t *testing.T, s string, want []Token, at Pos, err api.Errno) {
	t.Helper()
	l, p, e := Lex(s)
	if !slices.Equal(l, want) || p != at || e != err {
		t.Errorf("Lex(%.40q), %d bytes = %s, %v, %v; want %s, %v, %v", s, len(s), brief(l), p, e, brief(want), at, err)
	}
}

// checkAllByPatterns stops at the first text that fails: there are many.
func checkAllByPatterns(t *testing.T, all []string) {
	t.Helper()
	for _, s := range all {
		checkByPatterns(t, s)
		if t.Failed() {
			return
		}
	}
}

// checkByPatterns holds Lex, Name, and Join with Lex against the definitions.
func checkByPatterns(t *testing.T, s string) {
	t.Helper()
	l, at, err := wantLex(s)
	checkLex(t, s, l, at, err)
	checkName(t, s, wordPattern.MatchString(s))
	if err == api.OK {
		checkAgain(t, l)
	}
}

func checkFailure(t *testing.T, s string, line, col int, err api.Errno) {
	t.Helper()
	checkLex(t, s, nil, Pos{line, col}, err)
}

func checkName(t *testing.T, s string, want bool) {
	t.Helper()
	if Name(s) != want {
		t.Errorf("Name(%.40q), %d bytes = %t", s, len(s), !want)
	}
}

func checkJoin(t *testing.T, l []Token, want string) {
	t.Helper()
	if s := Join(l); s != want {
		t.Errorf("Join(%s) = %.200q; want %.200q", brief(l), s, want)
	}
}

// placeless are the tokens without their positions.
func placeless(l []Token) []Token {
	l = slices.Clone(l)
	for i := range l {
		l[i].Pos = Pos{}
	}
	return l
}

// checkAgain holds that the tokens of the joined texts are the same ones.
func checkAgain(t *testing.T, l []Token) {
	t.Helper()
	s := Join(l)
	if len(s) > api.MaxText {
		return
	}
	again, p, err := Lex(s)
	if !slices.Equal(placeless(again), placeless(l)) || p != (Pos{}) || err != api.OK {
		t.Errorf("Lex(%.40q), %d bytes = %s, %v, %v; want the same as %s", s, len(s), brief(again), p, err, brief(l))
	}
}

// texts are the strings of up to n of the pieces.
func texts(pieces []string, n int) []string {
	all := []string{""}
	last := all
	for range n {
		var next []string
		for _, s := range last {
			for _, piece := range pieces {
				next = append(next, s+piece)
			}
		}
		all = append(all, next...)
		last = next
	}
	return all
}

// P6.1
func TestKinds(t *testing.T) {
	if Word != 0 || Number != 1 || Sign != 2 || End != 3 || Kinds != 4 {
		t.Errorf("the kinds are %d, %d, %d, %d and %d", Word, Number, Sign, End, Kinds)
	}
}

// P6.1
func TestTokens(t *testing.T) {
	checkLex(t, "struct S { n: u8; }\n\tx_1 ", []Token{
		{Word, "struct", 0, Pos{1, 1}}, {Word, "S", 0, Pos{1, 8}}, {Sign, "{", 0, Pos{1, 10}},
		{Word, "n", 0, Pos{1, 12}}, {Sign, ":", 0, Pos{1, 13}}, {Word, "u8", 0, Pos{1, 15}}, {Sign, ";", 0, Pos{1, 17}},
		{Sign, "}", 0, Pos{1, 19}}, {Word, "x_1", 0, Pos{2, 2}}, {End, "", 0, Pos{2, 6}},
	}, Pos{}, api.OK)
	checkLex(t, "0 007 0x0aF(a1..0x00)", []Token{
		{Number, "0", 0, Pos{1, 1}}, {Number, "007", 7, Pos{1, 3}}, {Number, "0x0aF", 175, Pos{1, 7}},
		{Sign, "(", 0, Pos{1, 12}}, {Word, "a1", 0, Pos{1, 13}}, {Sign, "..", 0, Pos{1, 15}},
		{Number, "0x00", 0, Pos{1, 17}}, {Sign, ")", 0, Pos{1, 21}}, {End, "", 0, Pos{1, 22}},
	}, Pos{}, api.OK)
	// A dot is no part of a number.
	checkLex(t, "1..2", []Token{
		{Number, "1", 1, Pos{1, 1}}, {Sign, "..", 0, Pos{1, 2}}, {Number, "2", 2, Pos{1, 4}}, {End, "", 0, Pos{1, 5}},
	}, Pos{}, api.OK)
}

// P6.1
func TestEnd(t *testing.T) {
	for _, x := range []struct {
		s    string
		last Pos
	}{
		{"", Pos{1, 1}}, {" ", Pos{1, 2}}, {"\n", Pos{2, 1}}, {"\n\n ", Pos{3, 2}}, {"\t\t", Pos{1, 3}}, {"\r", Pos{1, 2}},
		{"\r\n", Pos{2, 1}}, {"\n\r", Pos{2, 2}}, {"//", Pos{1, 3}}, {"// a", Pos{1, 5}}, {"//\n", Pos{2, 1}}, {"//\n//", Pos{2, 3}},
		{"// a\n\n  // b\n ", Pos{4, 2}}, {"// é", Pos{1, 6}}, {"//\r\r", Pos{1, 5}},
	} {
		checkLex(t, x.s, []Token{{Kind: End, Pos: x.last}}, Pos{}, api.OK)
	}
}

// P6.1
func TestBlanksAndComments(t *testing.T) {
	for _, x := range []struct {
		s      string
		second Pos
	}{
		{"a b", Pos{1, 3}}, {"a\tb", Pos{1, 3}}, {"a\nb", Pos{2, 1}}, {"a\rb", Pos{1, 3}}, {"a\r\nb", Pos{2, 1}},
		{"a \t\r\n\n  b", Pos{3, 3}}, {"a//\nb", Pos{2, 1}}, {"a // c \"@é\xff\x00\n b", Pos{2, 2}}, {"a//b\r//c\nb", Pos{2, 1}},
		{"a///\nb", Pos{2, 1}}, {"a/////\n//\n///\n\nb", Pos{5, 1}}, {"a // x\n // y\n\tb", Pos{3, 2}}, {"a//" + strings.Repeat("@", 99) + "\nb", Pos{2, 1}},
	} {
		l, _, err := Lex(x.s)
		if len(l) != 3 || l[0] != (Token{Word, "a", 0, Pos{1, 1}}) || l[1] != (Token{Word, "b", 0, x.second}) || err != api.OK {
			t.Errorf("Lex(%q) = %v, %v; want a second word at %v", x.s, l, err, x.second)
		}
	}
	// One stroke is a Sign, and so are two that do not stand together.
	checkLex(t, "a/ /b", []Token{
		{Word, "a", 0, Pos{1, 1}}, {Sign, "/", 0, Pos{1, 2}}, {Sign, "/", 0, Pos{1, 4}}, {Word, "b", 0, Pos{1, 5}}, {End, "", 0, Pos{1, 6}},
	}, Pos{}, api.OK)
	checkLex(t, "/*//", []Token{{Sign, "/", 0, Pos{1, 1}}, {Sign, "*", 0, Pos{1, 2}}, {End, "", 0, Pos{1, 5}}}, Pos{}, api.OK)
}

// P6.1, and Ways: the signs are in a table, each of them once.
func TestSigns(t *testing.T) {
	listed := strings.Fields(allSigns)
	table := slices.Sorted(slices.Values(signs[:]))
	if !slices.Equal(table, slices.Sorted(slices.Values(listed))) {
		t.Errorf("the signs are %q; want %q", table, listed)
	}
	for _, a := range listed {
		checkLex(t, a, []Token{{Sign, a, 0, Pos{1, 1}}, {End, "", 0, Pos{1, 1 + len(a)}}}, Pos{}, api.OK)
		checkByPatterns(t, "x"+a+"1")
	}
	checkAllByPatterns(t, texts(listed, 3))
}

// P6.1
func TestLongestSign(t *testing.T) {
	for _, x := range []struct{ s, want string }{
		{"===", "== ="}, {"====", "== =="}, {"!==", "!= ="}, {"!!=", "! !="}, {"<<=", "<< ="}, {"<=<", "<= <"}, {"<<<", "<< <"},
		{">>=", ">> ="}, {">=>", ">= >"}, {"&&&", "&& &"}, {"|||", "|| |"}, {"....", ".. .."}, {"=<", "= <"}, {"=>", "= >"},
		{"<>", "< >"}, {"><", "> <"}, {"=!", "= !"}, {"&|", "& |"}, {"++", "+ +"}, {"->", "- >"}, {"**", "* *"}, {"::", ": :"},
	} {
		l, _, _ := Lex(x.s)
		checkJoin(t, l, x.want)
	}
}

// P6.1
func TestNumbers(t *testing.T) {
	for _, x := range []struct {
		s string
		n uint64
	}{
		{"0", 0}, {"1", 1}, {"9", 9}, {"10", 10}, {"00", 0}, {"010", 10}, {"08", 8}, {"4294967296", 1 << 32},
		{"9223372036854775807", 1<<63 - 1}, {"9223372036854775808", 1 << 63}, {"18446744073709551614", most - 1}, {"18446744073709551615", most},
		{"0x0", 0}, {"0x9", 9}, {"0xa", 10}, {"0xA", 10}, {"0xf", 15}, {"0xF", 15}, {"0x10", 16}, {"0xdeadBEEF", 0xdeadbeef}, {"0x00ff", 255},
		{"0x0123456789abcdef", 0x0123456789abcdef}, {"0xABCDEF", 0xabcdef}, {"0xffffffffffffffff", most}, {"0xFfFfFfFfFfFfFfFe", most - 1},
		// However many digits there are, the value counts.
		{"00000000000000000000018446744073709551615", most}, {strings.Repeat("0", 9999) + "7", 7}, {"0x" + strings.Repeat("0", 9999) + "7", 7},
		{"0x0000000000ffffffffffffffff", most}, {strings.Repeat("0", api.MaxText), 0},
	} {
		checkLex(t, x.s, []Token{{Number, x.s, x.n, Pos{1, 1}}, {End, "", 0, Pos{1, 1 + len(x.s)}}}, Pos{}, api.OK)
	}
}

// P6.1
func TestNumbersThatAreTooGreat(t *testing.T) {
	for _, s := range []string{
		"18446744073709551616", "18446744073709551620", "18446744073709551625", "20000000000000000000", "36893488147419103232", "99999999999999999999",
		"184467440737095516150", "000018446744073709551616", "340282366920938463463374607431768211456", "340282366920938463463374607431768211457",
		"0x10000000000000000", "0xfffffffffffffffff", "0x00010000000000000000", "0x100000000000000000000000000000000",
		strings.Repeat("9", api.MaxText), "1" + strings.Repeat("0", api.MaxText-1), "0x1" + strings.Repeat("0", 9999),
	} {
		checkFailure(t, s, 1, 1, api.ErrNum)
		checkFailure(t, "a\n = "+s[:min(len(s), 9000)]+";", 2, 4, api.ErrNum)
	}
}

// P6.1
func TestRunsThatAreNoNumbers(t *testing.T) {
	for _, s := range []string{
		"0x", "0X1", "0xg", "0x1g", "0x_1", "0x1_", "0xx1", "0x0x1", "00x1", "1x1", "0b1", "0o7", "1a", "12ab", "1_0", "1_", "0_", "1e5", "9A", "0xfL",
		"1" + strings.Repeat("a", 32), "0" + strings.Repeat("_", 99), "0x" + strings.Repeat("f", 40) + "g",
		// They would be too great, if they were numbers.
		"18446744073709551616a", "99999999999999999999_", "0x10000000000000000x", "99999999999999999999e1", "0xfffffffffffffffffg",
	} {
		checkFailure(t, s, 1, 1, api.ErrForm)
		checkFailure(t, "a+"+s+"+b", 1, 3, api.ErrForm)
	}
}

// P6.1
func TestWords(t *testing.T) {
	for _, s := range []string{
		"a", "z", "A", "Z", "_", "__", "a1", "_1", "a_b", "x0", "x10", "X9", "struct", "u16be", "Struct", "aZ_09", "true",
		strings.Repeat("a", 31), strings.Repeat("a", 32), strings.Repeat("_", 32), "a" + strings.Repeat("9", 31),
	} {
		checkLex(t, s, []Token{{Word, s, 0, Pos{1, 1}}, {End, "", 0, Pos{1, 1 + len(s)}}}, Pos{}, api.OK)
		checkLex(t, "-"+s+"-", []Token{{Sign, "-", 0, Pos{1, 1}}, {Word, s, 0, Pos{1, 2}}, {Sign, "-", 0, Pos{1, 2 + len(s)}}, {End, "", 0, Pos{1, 3 + len(s)}}}, Pos{}, api.OK)
	}
	for _, s := range []string{strings.Repeat("a", 33), strings.Repeat("_", 33), "Z" + strings.Repeat("0", 32), strings.Repeat("ab", 5000), strings.Repeat("x", api.MaxText)} {
		checkFailure(t, s, 1, 1, api.ErrLong)
		checkFailure(t, " \n  1 "+s[:min(len(s), 9000)]+" @", 2, 5, api.ErrLong)
	}
}

// P6.1
func TestBytesThatBeginNoToken(t *testing.T) {
	for c := range 256 {
		s := string([]byte{byte(c)})
		checkByPatterns(t, s)
		if strings.Contains("\"#$'.?@\\^`~", s) || c < ' ' && !strings.Contains("\t\n\r", s) || c >= 0x7f {
			checkFailure(t, s, 1, 1, api.ErrForm)
			checkFailure(t, "a\n  b"+s+"c", 2, 4, api.ErrForm)
		} else if _, _, err := Lex(s); err != api.OK {
			t.Errorf("Lex(%q): %v", s, err)
		}
	}
	for _, x := range []struct {
		s         string
		line, col int
	}{
		{"a . b", 1, 3}, {"a.b", 1, 2}, {"1.5", 1, 2}, {"...", 1, 3}, {"a..\n.", 2, 1}, {"\v", 1, 1}, {"a\fb", 1, 2}, {"\x00", 1, 1},
		{"é", 1, 1}, {"aé", 1, 2}, {"// é\né", 2, 1}, {"\u00a0", 1, 1}, {"\u2028", 1, 1}, {"\ufeffa", 1, 1}, {"a\u0085", 1, 2}, {"١", 1, 1},
		{"\"a\"", 1, 1}, {"a = 'b';", 1, 5}, {"#", 1, 1}, {"a^b", 1, 2}, {"~a", 1, 1}, {"a?b", 1, 2}, {"\\\n", 1, 1},
	} {
		checkFailure(t, x.s, x.line, x.col, api.ErrForm)
	}
}

// P6.1: what stands behind the first position plays no part.
func TestFirstFailure(t *testing.T) {
	long, great := strings.Repeat("a", 33), "18446744073709551616"
	checkFailure(t, "@ "+long+" "+great, 1, 1, api.ErrForm)
	checkFailure(t, long+" @ "+great, 1, 1, api.ErrLong)
	checkFailure(t, great+" "+long+" @", 1, 1, api.ErrNum)
	checkFailure(t, "ok\n\n "+great+"@", 3, 2, api.ErrNum)
	checkFailure(t, "ok\n// "+long+" "+great+" @\n\t"+long, 3, 2, api.ErrLong)
	checkFailure(t, "ok; 1 1x 1", 1, 7, api.ErrForm)
}

// P6.1
func TestLength(t *testing.T) {
	for _, c := range []string{" ", "\n", "a ", "/", "@", "1", "a", ";", "//\n", "\xff"} {
		full := strings.Repeat(c, api.MaxText)[:api.MaxText]
		checkByPatterns(t, full)
		checkByPatterns(t, full[1:])
		// It is too long whatever it holds, even if no token could be read.
		checkFailure(t, full+c[:1], 1, 1, api.ErrLong)
		checkFailure(t, full+"@", 1, 1, api.ErrLong)
		checkFailure(t, "\n@"+full, 1, 1, api.ErrLong)
		checkFailure(t, strings.Repeat(full, 64), 1, 1, api.ErrLong)
	}
	checkLex(t, strings.Repeat(" ", api.MaxText), []Token{{End, "", 0, Pos{1, api.MaxText + 1}}}, Pos{}, api.OK)
	checkLex(t, strings.Repeat("\n", api.MaxText), []Token{{End, "", 0, Pos{api.MaxText + 1, 1}}}, Pos{}, api.OK)
	if l, _, _ := Lex(strings.Repeat(";", api.MaxText)); len(l) != api.MaxText+1 {
		t.Errorf("%d tokens", len(l))
	}
}

// P6.1, P6.2 and P6.3 by the patterns, for all short texts of what tells the
// kinds apart.
func TestEveryShortText(t *testing.T) {
	checkAllByPatterns(t, texts([]string{"a", "F", "g", "_", "0", "x", "9", ".", "=", "<", "&", "/", "!", " ", "\n", "\r", "@", "\xc3"}, 4))
	checkAllByPatterns(t, texts([]string{"x", "0", "1", "/", "\n", " ", "."}, 6))
	var all []string
	for c := range 256 {
		for d := range 256 {
			all = append(all, string([]byte{byte(c), byte(d)}), string([]byte{'a', byte(c), byte(d), '0'}))
		}
	}
	checkAllByPatterns(t, all)
}

// P6.1, P6.2 and P6.3 by the patterns, for texts of longer pieces.
func TestTextsOfPieces(t *testing.T) {
	pieces := []string{
		"struct", "u8", strings.Repeat("a", 31), "0x", "0xff", "18446744073709551615", "1844674407370955161", "0x1000000000000000", "//", "//\n", "\n ", "\t", "..", "<<", ">", "&&", "|", "{", "é",
	}
	checkAllByPatterns(t, texts(pieces, 3))
}

// P6.2
func TestName(t *testing.T) {
	for _, s := range []string{"a", "Z", "_", "_1", "a1", "struct", "u8", "a_B_9", strings.Repeat("a", 32), "_" + strings.Repeat("0", 31)} {
		checkName(t, s, true)
	}
	for _, s := range []string{
		"", " ", "1", "1a", "0x1", "a b", " a", "a ", "a\n", "\na", "a//", "//a", "//", "a.", "a..b", "a-b", ";", "=", "@", "a@", "é", "aé", "a\x00", "\xff",
		strings.Repeat("a", 33), strings.Repeat("a", 64), strings.Repeat("a", 32) + " ", " " + strings.Repeat("a", 32), strings.Repeat("a", 1<<20), strings.Repeat("1", 1<<20), strings.Repeat("/", 1<<20),
		strings.Repeat("a", 32) + strings.Repeat(" ", 1<<20),
	} {
		checkName(t, s, false)
	}
	for c := range 256 {
		s := string([]byte{byte(c)})
		digit := strings.Contains("0123456789", s)
		letter := strings.Contains("abcdefghijklmnopqrstuvwxyzABCDEFGHIJKLMNOPQRSTUVWXYZ_", s)
		checkName(t, s, letter)
		checkName(t, s+"a", letter)
		checkName(t, "a"+s, letter || digit)
		checkName(t, strings.Repeat("a", 31)+s, letter || digit)
		checkName(t, strings.Repeat("a", 32)+s, false)
	}
}

// P6.2
func TestJoin(t *testing.T) {
	a, one, plus := Token{Word, "a", 0, Pos{1, 1}}, Token{Number, "0x01", 1, Pos{9, 9}}, Token{Kind: Sign, Text: "+"}
	end, empty := Token{Kind: End}, Token{Kind: Word}
	checkJoin(t, nil, "")
	checkJoin(t, []Token{}, "")
	checkJoin(t, []Token{end}, "")
	checkJoin(t, []Token{end, end}, "")
	checkJoin(t, []Token{a}, "a")
	checkJoin(t, []Token{a, end}, "a")
	checkJoin(t, []Token{a, plus, one}, "a + 0x01")
	checkJoin(t, []Token{a, plus, one, end}, "a + 0x01")
	// An End is left out wherever it stands, with its text, if it has one.
	checkJoin(t, []Token{end, a, end, end, one, end}, "a 0x01")
	checkJoin(t, []Token{{Kind: End, Text: "text", N: 1}, a}, "a")
	// All other texts stand as they are, whatever the kind.
	checkJoin(t, []Token{empty, a, empty, empty, one, empty}, " a   0x01 ")
	checkJoin(t, []Token{empty}, "")
	checkJoin(t, []Token{empty, empty}, " ")
	checkJoin(t, []Token{empty, end, empty}, " ")
	checkJoin(t, []Token{{Kind: Kinds, Text: "x"}, {Kind: -1, Text: "y"}, {Kind: math.MinInt, Text: "z"}, {Kind: math.MaxInt, Text: " "}}, "x y z  ")
	checkJoin(t, []Token{{Kind: Word, Text: "a\n//\xff"}, {Kind: Number, Text: "no", N: 7}}, "a\n//\xff no")
	checkJoin(t, slices.Repeat([]Token{plus}, 100000), strings.Repeat("+ ", 99999)+"+")
}

// P6.3
func TestLexOfJoin(t *testing.T) {
	for _, s := range []string{
		"", "a", "struct S{n:u8;b:bytes[n+1];}", "a=0x10; // x", "const A=0x00ff;//\nstruct S(a,b){pack u8{x:3;y:5;}c:u32be=crc32(a..b)where a<<1!=b&&!c||d;}",
		"a/ /b", "/ / /", "= =", "< <", ".. ..", "& & &", "a 1", "1 a", "0 x1", "1 1", "! =", "..\n..", "{}[]()",
	} {
		l, _, err := Lex(s)
		if err != api.OK {
			t.Errorf("Lex(%q): %v", s, err)
		}
		checkAgain(t, l)
	}
	// Joined, half as many signs are as long as a description may be.
	half, _, _ := Lex(strings.Repeat(";", api.MaxText/2))
	checkAgain(t, half)
	if s := Join(half); len(s) != api.MaxText-1 {
		t.Errorf("%d bytes", len(s))
	}
	more, _, _ := Lex(strings.Repeat(";", api.MaxText/2+1))
	checkFailure(t, Join(more), 1, 1, api.ErrLong)
}

// Rule 4
func TestMemory(t *testing.T) {
	s := "a = 0x10; b"
	first, _, _ := Lex(s)
	want := slices.Clone(first)
	second, _, _ := Lex(s)
	for i := range second {
		second[i] = Token{Kind: Kinds, Text: "other", N: 1, Pos: Pos{7, 7}}
	}
	if !slices.Equal(first, want) {
		t.Errorf("a result was changed by way of another one: %v", first)
	}
	checkLex(t, s, want, Pos{}, api.OK)
	some := first[:2]
	checkJoin(t, some, "a =")
	if !slices.Equal(first, want) {
		t.Errorf("Join changed its argument: %v", first)
	}
}

// The chapter's example.
func TestExample(t *testing.T) {
	checkLex(t, "a=0x10; // x", []Token{
		{Word, "a", 0, Pos{1, 1}}, {Sign, "=", 0, Pos{1, 2}}, {Number, "0x10", 16, Pos{1, 3}}, {Sign, ";", 0, Pos{1, 7}}, {End, "", 0, Pos{1, 13}},
	}, Pos{}, api.OK)
}
