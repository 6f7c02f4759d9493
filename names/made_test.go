package names

import (
	"fmt"
	"math/rand"
	"slices"
	"strings"
	"testing"

	"calliper/api"
)

// maker makes a description by chance. What it makes is right, but for as many of 1000
// choices as odds are: these are right only by chance.
type maker struct {
	*rand.Rand
	odds    int
	consts  []string
	structs []made
	// taken are the names that cannot be defined again in the struct, scope those of
	// them that are numbers, and fields the fields so far.
	taken, scope, fields []string
	// measures are the fields that measure others, and owed those others that are still
	// to come.
	measures []string
	owed     []owing
}

// made is a struct that was made.
type made struct {
	name, text string
	params     int
}

// owing is a field that is measured: as a list, if its values are counted.
type owing struct {
	name string
	list bool
}

func newMaker(seed int64, odds int) *maker {
	return &maker{Rand: rand.New(rand.NewSource(seed)), odds: odds}
}

func (m *maker) wild() bool { return m.Intn(1000) < m.odds }

func (m *maker) pick(list ...string) string { return list[m.Intn(len(list))] }

func (m *maker) any() string {
	return m.pick("a", "b", "c", "d", "e", "f", "g", "h", "p", "q", "K", "L", "S", "T")
}

// define takes a name.
func (m *maker) define() string {
	name := m.any()
	for i := 0; !m.wild() && slices.Contains(m.taken, name); i++ {
		if name = m.any(); i > 20 {
			name = fmt.Sprintf("x%d", i*len(m.taken))
		}
	}
	m.taken = append(m.taken, name)
	return name
}

// expr makes an expression that names none of some.
func (m *maker) expr(deep int, but []string) string {
	if kind := m.Intn(6); deep > 0 && kind < 2 {
		return m.pick("!", "") + "(" + m.expr(deep-1, but) + ")"
	} else if deep > 0 && kind < 4 {
		return m.expr(deep-1, but) + m.pick("+", "*", "&&", "==") + m.expr(deep-1, but)
	}
	if m.wild() {
		return m.any()
	}
	if name := m.pick(append([]string{""}, m.scope...)...); name != "" && !slices.Contains(but, name) {
		return name
	}
	return fmt.Sprint(m.Intn(4))
}

// element makes an integer or a Ref.
func (m *maker) element(but []string) string {
	if m.wild() {
		return m.any() + m.pick("", "("+m.expr(1, nil)+")")
	}
	if len(m.structs) == 0 || m.Intn(2) == 0 {
		return m.pick("u8", "u16be", "u24le", "u32be", "u64le")
	}
	s := m.structs[m.Intn(len(m.structs))]
	n := s.params
	if m.wild() {
		n = m.Intn(3)
	}
	var args []string
	for range n {
		args = append(args, m.expr(1, but))
	}
	if n == 0 {
		return s.name
	}
	return s.name + "(" + strings.Join(args, ", ") + ")"
}

func (m *maker) list(deep int, but []string) string {
	if m.Intn(2) == 0 {
		return "rest " + m.typ(deep-1, but)
	}
	return m.element(but) + "[" + m.expr(2, nil) + "]"
}

// typ makes a type that does not depend on some names, other than in lengths.
func (m *maker) typ(deep int, but []string) string {
	if m.wild() {
		but = nil
	}
	kind := m.Intn(12)
	if deep <= 0 {
		kind = m.Intn(7)
	}
	switch kind {
	case 0, 1:
		return m.element(but)
	case 2:
		return m.pick("zero", "skip") + "[" + m.expr(2, but) + "]"
	case 3:
		return "bytes[" + m.expr(2, nil) + "]"
	case 4, 5:
		return m.pick("tail", "none")
	case 6:
		return m.element(but) + "[" + m.expr(2, nil) + "]"
	case 7:
		return m.list(deep, but)
	case 8, 9:
		return m.pick("window", "at") + "[" + m.expr(2, nil) + "] " + m.typ(deep-1, but)
	}
	s := "switch (" + m.expr(2, but) + ") {"
	for i := range m.Intn(4) {
		if m.wild() {
			i = m.Intn(3)
		}
		s += fmt.Sprintf(" case %d: %s;", i, m.typ(deep-1, but))
	}
	if m.Intn(2) == 0 {
		s += " else: " + m.typ(deep-1, but) + ";"
	}
	return s + " }"
}

func (m *maker) pack() string {
	s, left := "pack u16le {", 16
	for left > 0 {
		n := 1 + m.Intn(left)
		left -= n
		if m.wild() {
			n--
		}
		name := m.define()
		m.scope = append(m.scope, name)
		s += fmt.Sprintf(" %s: %d;", name, n)
	}
	return s + " }"
}

// measure makes what measures a field that is still to come.
func (m *maker) measure(name string) string {
	m.measures = append(m.measures, name)
	x := owing{name: m.define(), list: m.Intn(2) == 0}
	if !m.wild() {
		m.owed = append(m.owed, x)
	}
	if x.list {
		return " = countof(" + x.name + ")"
	}
	return " = sizeof(" + x.name + ")"
}

// sum makes the checksum of fields.
func (m *maker) sum() string {
	i := m.Intn(len(m.fields))
	a, b := m.fields[i], m.fields[i+m.Intn(len(m.fields)-i)]
	if m.wild() {
		a, b = m.pick(b, m.any()), m.pick(a, m.any())
	}
	return " = " + m.pick("crc32", "adler32") + "(" + a + ".." + b + ")"
}

// field makes a new field, or one that is owed.
func (m *maker) field(due bool) string {
	var name, typ, derived string
	var x owing
	if due {
		x, m.owed = m.owed[0], m.owed[1:]
		name = x.name
	} else {
		name = m.define()
	}
	var but []string
	if due && (m.odds == 0 || m.Intn(8) > 0) {
		but = m.measures
	}
	kind := m.Intn(6)
	known := false
	switch {
	case x.list && !m.wild():
		typ = m.list(2, but)
	case kind == 0:
		typ, known = m.pick("u8", "u32le"), true
		derived = m.measure(name)
	case kind == 1 && len(m.fields) > 0:
		typ = m.pick("u32be", "u32le")
		derived = m.sum()
	case kind == 2:
		typ, known = m.pick("u8", "u16be", "u64le"), true
	default:
		typ = m.typ(2, but)
		known = typ[0] == 'u' && !strings.Contains(typ, "[")
	}
	if m.wild() {
		typ = m.typ(2, but)
	}
	m.fields = append(m.fields, name)
	if known {
		m.scope = append(m.scope, name)
	}
	if m.Intn(3) == 0 {
		derived += " where " + m.expr(2, nil)
	}
	return name + ": " + typ + derived + ";"
}

// structure makes a struct with a name.
func (m *maker) structure(name string, params int) {
	m.taken, m.fields, m.measures, m.owed = slices.Clone(m.consts), nil, nil, nil
	var list []string
	for range params {
		list = append(list, m.define())
	}
	m.scope = slices.Clone(m.taken)
	s := "struct " + name + " {"
	if params > 0 {
		s = "struct " + name + "(" + strings.Join(list, ", ") + ") {"
	}
	for range m.Intn(5) {
		if m.Intn(5) == 0 {
			s += " " + m.pack()
		} else {
			s += " " + m.field(len(m.owed) > 0 && m.Intn(2) == 0)
		}
	}
	for len(m.owed) > 0 {
		s += " " + m.field(true)
	}
	m.structs = append(m.structs, made{name: name, text: s + " }", params: params})
}

// all makes structs of some names, and returns their texts.
func (m *maker) all(names ...string) []string {
	for i, name := range names {
		params := m.Intn(3)
		if i == len(names)-1 && !m.wild() {
			params = 0
		}
		if m.wild() {
			name = m.pick(names...)
		}
		m.structure(name, params)
	}
	var l []string
	for _, s := range m.structs {
		l = append(l, s.text)
	}
	return l
}

// someConsts makes consts, and returns their texts.
func (m *maker) someConsts() []string {
	var l []string
	for range m.Intn(3) {
		l = append(l, "const "+m.define()+" = 1;")
	}
	m.consts = m.taken
	return l
}

// P9.2: descriptions by chance, with nothing, little or much that is wrong.
func TestMade(t *testing.T) {
	seen := map[api.Errno]int{}
	for i := range int64(6000) {
		odds := []int{0, 10, 30, 100}[i%4]
		m := newMaker(i, odds)
		consts := m.someConsts()
		parts := m.all([]string{"S", "T", "a", "b"}[m.Intn(5):]...)
		for _, c := range consts {
			// Where the consts stand makes no difference.
			parts = slices.Insert(parts, m.Intn(len(parts)+1), c)
		}
		s := strings.Join(parts, "\n")
		x := checkModel(t, s)
		if odds == 0 && len(m.structs) > 0 && x != (verdict{}) {
			t.Errorf("%q is not right: %v", s, x)
		}
		seen[x.err]++
		if t.Failed() {
			return
		}
	}
	for _, err := range []api.Errno{api.OK, api.ErrNone, api.ErrArg, api.ErrThere, api.ErrState} {
		if seen[err] < 20 {
			t.Errorf("%v only %d times", err, seen[err])
		}
	}
}

// P9.3: structs with other names that are right may stand ahead of those of a file that
// is right, with whatever names in them, and between them.
func TestInserted(t *testing.T) {
	for i := range int64(1500) {
		m := newMaker(i, 0)
		parts := m.someConsts()
		others := newMaker(-1-i, 0)
		others.consts = m.consts
		right := m.all([]string{"S", "T", "a", "b", "U"}[m.Intn(5):]...)
		more := others.all([]string{"V", "W", "c"}[m.Intn(3):]...)
		for _, at := range []int{0, m.Intn(len(right))} {
			l := slices.Concat(parts, right[:at], more, right[at:])
			checkNames(t, strings.Join(l, " "), "", api.OK)
		}
		checkNames(t, strings.Join(append(parts, right...), " "), "", api.OK)
		checkNames(t, strings.Join(append(parts, more...), " "), "", api.OK)
	}
	checkAll(t, []verdict{
		{"struct T(n) { a: bytes[n]; } struct S { n: u8 = sizeof(a); a: rest T(2); }", "", api.OK},
		{"struct a { n: none; } struct n { a: a; } struct S { n: u8; a: switch (n) { else: n; }; }", "", api.OK},
		{"struct T { n: u8 = sizeof(m); m: u8; } struct S { n: u8; m: u8 = sizeof(a); a: zero[n]; }", "", api.OK},
	})
}
