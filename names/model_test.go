package names

import (
	"slices"
	"strconv"
	"strings"
	"testing"

	"calliper/api"
	"calliper/lex"
	"calliper/parse"
	"calliper/show"
)

// model holds a description as its tokens, and gathers all that is wrong with it. It
// knows nothing of the trees of layer 7, only of the lines of layer 8's text.
type model struct {
	consts  []string
	structs []block
	found   []verdict
}

// block is a struct: its items are lines.
type block struct {
	name   string
	params []string
	items  []line
}

// line is a pack, or a field with the tokens of its type and of its condition.
type line struct {
	name       string
	typ, where []string
	derived    []string
	subs       []string
	bits       []int
	size       int
}

func texts(t *testing.T, s string) []string {
	t.Helper()
	tokens, at, err := lex.Lex(s)
	if err != api.OK {
		t.Fatalf("Lex(%q) = %v, %v", s, at, err)
	}
	var l []string
	for _, x := range tokens[:len(tokens)-1] {
		l = append(l, x.Text)
	}
	return l
}

// readModel reads a description that layer 8 has tidied.
func readModel(t *testing.T, s string) *model {
	t.Helper()
	m := &model{}
	for _, text := range strings.Split(strings.TrimSuffix(s, "\n"), "\n") {
		l := texts(t, text)
		switch {
		case len(l) < 2:
		case l[0] == "const":
			m.consts = append(m.consts, l[1])
		case l[0] == "struct":
			b := block{name: l[1]}
			for _, x := range l[2:] {
				if !strings.Contains("(,){", x) {
					b.params = append(b.params, x)
				}
			}
			m.structs = append(m.structs, b)
		default:
			b := &m.structs[len(m.structs)-1]
			b.items = append(b.items, readLine(t, l))
		}
	}
	return m
}

func readLine(t *testing.T, l []string) line {
	if l[0] == "pack" {
		bits, err := strconv.Atoi(strings.Trim(l[1], "ubel"))
		if err != nil {
			t.Fatal(err)
		}
		x := line{size: bits}
		for i := 3; l[i] != "}"; i += 4 {
			n, err := strconv.Atoi(l[i+2])
			if err != nil {
				t.Fatal(err)
			}
			x.subs, x.bits = append(x.subs, l[i]), append(x.bits, n)
		}
		return x
	}
	x := line{name: l[0], typ: l[2 : len(l)-1]}
	if at := slices.Index(x.typ, "where"); at >= 0 {
		x.typ, x.where = x.typ[:at], x.typ[at+1:]
	}
	if at := slices.Index(x.typ, "="); at >= 0 {
		x.typ, x.derived = x.typ[:at], x.typ[at+1:]
	}
	return x
}

func (m *model) wrong(name string, err api.Errno) {
	m.found = append(m.found, verdict{name: name, err: err})
}

func isName(s string) bool {
	return lex.Name(s) && !parse.Keyword(s)
}

func isInt(typ []string) bool {
	return len(typ) == 1 && strings.Contains(" u8 u16be u16le u24be u24le u32be u32le u64be u64le ", " "+typ[0]+" ")
}

// verdict is the first thing that is wrong.
func (m *model) verdict() verdict {
	for i, name := range m.consts {
		if slices.Contains(m.consts[:i], name) {
			m.wrong(name, api.ErrThere)
		}
	}
	for i, b := range m.structs {
		for _, earlier := range m.structs[:i] {
			if earlier.name == b.name {
				m.wrong(b.name, api.ErrThere)
			}
		}
		m.block(i)
	}
	if n := len(m.structs); n == 0 {
		m.wrong("", api.ErrNone)
	} else if m.structs[n-1].params != nil {
		m.wrong(m.structs[n-1].name, api.ErrArg)
	}
	return append(m.found, verdict{})[0]
}

func (m *model) block(at int) {
	b := m.structs[at]
	// all are the names that stand before, and scope those of them that are numbers.
	all := slices.Clone(m.consts)
	add := func(name string) {
		if slices.Contains(all, name) {
			m.wrong(name, api.ErrThere)
		}
		all = append(all, name)
	}
	for _, name := range b.params {
		add(name)
	}
	scope := slices.Clone(all)
	for i, x := range b.items {
		if x.subs != nil {
			sum := 0
			for _, n := range x.bits {
				sum += n
			}
			if sum != x.size || slices.Contains(x.bits, 0) {
				m.wrong(x.subs[0], api.ErrArg)
			}
			for _, name := range x.subs {
				add(name)
				scope = append(scope, name)
			}
			continue
		}
		add(x.name)
		m.typ(at, x, scope)
		m.form(b, i)
		if isInt(x.typ) && (x.derived == nil || len(x.derived) == 4) {
			scope = append(scope, x.name)
		}
		if x.derived != nil {
			m.derived(b, i)
		}
		for _, name := range x.where {
			if isName(name) && !slices.Contains(scope, name) {
				m.wrong(name, api.ErrNone)
			}
		}
	}
}

// opened is the outermost bracket around a token, but no brace, with the token before it;
// the empty string if there is none, as at the name of a struct.
func opened(typ []string, at int) string {
	deep := 0
	for i := at - 1; i >= 0; i-- {
		switch typ[i] {
		case "{", "}", ";", ":":
			return ""
		case ")", "]":
			deep++
		case "(", "[":
			deep--
		}
		if deep < 0 {
			if outer := opened(typ, i); outer != "" {
				return outer
			}
			return typ[i-1] + typ[i]
		}
	}
	return ""
}

// eachWithin passes the places of what is within the bracket at a place, and in no other
// one within it, to see.
func eachWithin(typ []string, at int, see func(i int)) {
	deep := 0
	for i := at; i == at || deep > 0; i++ {
		switch typ[i] {
		case "(", "[", "{":
			deep++
		case ")", "]", "}":
			deep--
		default:
			if deep == 1 {
				see(i)
			}
		}
	}
}

// typ looks at the tokens of a type, one after the other.
func (m *model) typ(at int, x line, scope []string) {
	for i, token := range x.typ {
		if token == "{" {
			var cases []string
			eachWithin(x.typ, i, func(j int) {
				if x.typ[j-1] == "case" {
					if slices.Contains(cases, x.typ[j]) {
						m.wrong(x.name, api.ErrThere)
					}
					cases = append(cases, x.typ[j])
				}
			})
		}
		if !isName(token) {
			continue
		}
		if opened(x.typ, i) != "" {
			if !slices.Contains(scope, token) {
				m.wrong(token, api.ErrNone)
			}
			continue
		}
		args := 0
		if i+1 < len(x.typ) && x.typ[i+1] == "(" {
			args++
			eachWithin(x.typ, i+1, func(j int) {
				if x.typ[j] == "," {
					args++
				}
			})
		}
		ref := slices.IndexFunc(m.structs[:at], func(b block) bool { return b.name == token })
		if ref < 0 {
			m.wrong(token, api.ErrNone)
		} else if len(m.structs[ref].params) != args {
			m.wrong(token, api.ErrArg)
		}
	}
}

// form looks for the names of measures in a type that is measured.
func (m *model) form(b block, at int) {
	x := b.items[at]
	measured := false
	for _, y := range b.items[:at] {
		measured = measured || len(y.derived) == 4 && y.derived[2] == x.name
	}
	for i, token := range x.typ {
		in := opened(x.typ, i)
		decides := in == "switch(" || in == "zero[" || in == "skip[" || strings.HasSuffix(in, "(") && isName(in[:len(in)-1])
		for _, y := range b.items {
			if measured && decides && len(y.derived) == 4 && y.name == token {
				m.wrong(x.name, api.ErrState)
			}
		}
	}
}

// derived looks at how a field is derived: sizeof ( a ) or crc32 ( a .. b ).
func (m *model) derived(b block, at int) {
	x := b.items[at]
	find := func(name string) int {
		return slices.IndexFunc(b.items, func(y line) bool { return y.subs == nil && y.name == name })
	}
	if len(x.derived) == 4 {
		if !isInt(x.typ) {
			m.wrong(x.name, api.ErrArg)
		}
		a := find(x.derived[2])
		if a <= at {
			m.wrong(x.derived[2], api.ErrNone)
			return
		}
		typ := b.items[a].typ
		list := typ[0] == "rest" || typ[len(typ)-1] == "]" && (isInt(typ[:1]) || isName(typ[0]))
		if x.derived[0] == "countof" && !list {
			m.wrong(x.derived[2], api.ErrArg)
		}
		return
	}
	if !isInt(x.typ) || !strings.Contains(x.typ[0], "32") {
		m.wrong(x.name, api.ErrArg)
	}
	a, z := find(x.derived[2]), find(x.derived[4])
	if a < 0 || a >= at {
		m.wrong(x.derived[2], api.ErrNone)
	}
	if z < 0 || z >= at {
		m.wrong(x.derived[4], api.ErrNone)
	}
	if z < a {
		m.wrong(x.name, api.ErrArg)
	}
}

// checkModel checks that Check says of a description what the model says, and returns
// that.
func checkModel(t *testing.T, s string) verdict {
	t.Helper()
	tidy, at, err := show.Tidy(s)
	if err != api.OK {
		t.Fatalf("Tidy(%q) = %v, %v", s, at, err)
	}
	x := readModel(t, tidy).verdict()
	checkNames(t, s, x.name, x.err)
	return x
}
