package canon

import (
	"fmt"
	"math/rand"
	"slices"
	"testing"

	"calliper/api"
	"calliper/parse"
	"calliper/sizes"
)

// grower makes a description by chance, and notes of each struct what it contains.
type grower struct {
	*rand.Rand
	structs []grown
	// tall is whether most fields name the struct that was made last.
	tall bool
}

// grown is a struct that was made. Its first field takes a byte, so its values are never
// empty.
type grown struct {
	text         string
	skips, looks []string
	refs         []int
	depth        int
}

// part is what a type contains.
type part struct {
	text       string
	skip, look bool
	refs       []int
}

// around returns a part that is made of others, whose texts stand in the form.
func around(form string, parts ...part) part {
	var all part
	var texts []any
	for _, x := range parts {
		texts = append(texts, x.text)
		all.skip, all.look = all.skip || x.skip, all.look || x.look
		all.refs = append(all.refs, x.refs...)
	}
	all.text = fmt.Sprintf(form, texts...)
	return all
}

// solid makes a type whose values are not empty, but for some that are made by mistake.
func (g *grower) solid(deep int) part {
	if g.Intn(8) == 0 {
		return g.typ(deep)
	}
	switch kind := g.Intn(8); {
	case kind < 3 && len(g.structs) > 0:
		return g.ref()
	case kind == 3:
		return part{text: "skip[2]", skip: true}
	case kind == 4 && deep > 0:
		return around("window[n + 1] %s", g.typ(deep-1))
	case kind == 5 && deep > 0:
		return around("switch (n) { case 7: %s; case 0: %s; else: %s; }", g.solid(deep-1), g.solid(deep-1), g.solid(deep-1))
	}
	return part{text: []string{"u8", "u32le", "bytes[3]", "u16be[2]"}[g.Intn(4)]}
}

func (g *grower) ref() part {
	at := g.Intn(len(g.structs))
	if g.tall && g.Intn(40) > 0 {
		at = len(g.structs) - 1
	}
	return part{text: fmt.Sprintf("T%d", at), refs: []int{at}}
}

func (g *grower) typ(deep int) part {
	if deep == 0 {
		return []part{{text: "tail"}, {text: "none"}, {text: "zero[n]"}, {text: "skip[n]", skip: true}, {text: "u8"}}[g.Intn(5)]
	}
	switch g.Intn(8) {
	case 0:
		x := around("at[n] %s", g.typ(deep-1))
		x.look = true
		return x
	case 1:
		return around("rest %s", g.solid(deep-1))
	case 2:
		if len(g.structs) > 0 {
			return around("%s[n]", g.ref())
		}
	case 3:
		return around("switch (n) { case 1: %s; case 2: %s; }", g.typ(deep-1), g.typ(deep-1))
	case 4:
		return around("switch (n) { else: %s; }", g.typ(deep-1))
	case 5:
		return g.typ(0)
	}
	return g.solid(deep)
}

func (g *grower) add() {
	s := grown{text: fmt.Sprintf("struct T%d { n: u8; ", len(g.structs)), depth: 1}
	for i := range 1 + g.Intn(3) {
		if g.Intn(6) == 0 && !g.tall {
			s.text += fmt.Sprintf("pack u8 { p%d: 5; q%d: 3; } ", i, i)
			continue
		}
		x := g.typ(g.Intn(4))
		if g.tall && i == 0 && len(g.structs) > 0 {
			x = g.ref()
		}
		name := fmt.Sprintf("f%d", i)
		s.text += name + ": " + x.text + "; "
		s.refs = append(s.refs, x.refs...)
		for _, ref := range x.refs {
			s.depth = max(s.depth, 1+g.structs[ref].depth)
		}
		if x.skip {
			s.skips = append(s.skips, name)
		}
		if x.look {
			s.looks = append(s.looks, name)
		}
	}
	s.text += "} "
	g.structs = append(g.structs, s)
}

func (g *grower) text() string {
	s := ""
	for _, x := range g.structs {
		s += x.text
	}
	return s
}

// used are the structs that are reached from the root, by adding what those so far refer
// to until there is no more.
func (g *grower) used() []int {
	list := []int{len(g.structs) - 1}
	for i := 0; i < len(list); i++ {
		for _, ref := range g.structs[list[i]].refs {
			if !slices.Contains(list, ref) {
				list = append(list, ref)
			}
		}
	}
	slices.Sort(list)
	return list
}

// model is what Right, Of and Used are to return.
func (g *grower) model(f *parse.File) (string, api.Errno, Class, []int) {
	if name, err := sizes.Empty(f); err != api.OK {
		return name, err, Class{}, nil
	}
	for at, s := range g.structs {
		if s.depth > api.MaxDepth {
			return fmt.Sprintf("T%d", at), api.ErrDeep, Class{}, nil
		}
	}
	used := g.used()
	c := Class{Canonical: true, Writable: true, Depth: g.structs[len(g.structs)-1].depth}
	for _, at := range used {
		s := g.structs[at]
		c.Skips, c.Looks = append(c.Skips, s.skips...), append(c.Looks, s.looks...)
		c.Canonical = c.Canonical && len(s.skips)+len(s.looks) == 0
		c.Writable = c.Writable && len(s.looks) == 0
	}
	return "", api.OK, c, used
}

// P13.1 and P13.2: descriptions by chance, against what is known of them.
func TestByChance(t *testing.T) {
	count := map[string]int{}
	for seed := range int64(3000) {
		g := &grower{Rand: rand.New(rand.NewSource(seed)), tall: seed%4 == 0}
		n := 1 + g.Intn(6)
		if g.tall {
			n = 20 + g.Intn(api.MaxStructs-19)
		}
		for range n {
			g.add()
		}
		s := g.text()
		f := parsed(t, s)
		name, err, want, used := g.model(f)
		checkFile(t, s, f, name, err)
		if c, _ := Of(f); fmt.Sprint(c) != fmt.Sprint(want) || !slices.Equal(Used(f), used) {
			t.Errorf("%s\n got %v, %v\nwant %v, %v", s, c, Used(f), want, used)
		}
		if err == api.OK {
			checkAlone(t, s, g, want, used)
			checkWithMore(t, g, want, used)
			count[fmt.Sprintf("canonical %v, writable %v", want.Canonical, want.Writable)]++
		}
		if t.Failed() {
			return
		}
		count[err.Error()]++
		if err == api.OK && len(used) < n {
			count["unused"]++
		}
		if want.Depth > 5 {
			count["tall"]++
		}
	}
	for _, x := range []string{api.OK.Error(), api.ErrEmpty.Error(), api.ErrDeep.Error(), "canonical true, writable true", "canonical false, writable true", "canonical false, writable false", "unused", "tall"} {
		if count[x] < 100 {
			t.Errorf("%d of the descriptions are %s: %v", count[x], x, count)
		}
	}
}

// checkAlone checks P13.3: without the structs that are not used, the Class is the same.
func checkAlone(t *testing.T, s string, g *grower, want Class, used []int) {
	t.Helper()
	alone, indices := "", []int{}
	for i, at := range used {
		alone += g.structs[at].text
		indices = append(indices, i)
	}
	f := parsed(t, alone)
	if c, err := Of(f); err != api.OK || fmt.Sprint(c) != fmt.Sprint(want) || !slices.Equal(Used(f), indices) {
		t.Errorf("%s\nalone: %v, %v, %v\n want: %v", s, c, err, Used(f), want)
	}
}

// checkWithMore checks P13.3: with more structs that are not used, in any places, the
// Class is the same.
func checkWithMore(t *testing.T, g *grower, want Class, used []int) {
	t.Helper()
	more, indices, n := "const more = 4; ", []int{}, 0
	for at, x := range g.structs {
		if n-at+len(g.structs) < api.MaxStructs && g.Intn(2) == 0 {
			more += fmt.Sprintf("struct More%d { n: u8; f0: at[n] skip[more]; ", at)
			if at > 0 && g.structs[at-1].depth < api.MaxDepth {
				more += fmt.Sprintf("f1: at[1] T%d; ", at-1)
			}
			more += "} "
			n++
		}
		if slices.Contains(used, at) {
			indices = append(indices, n)
		}
		more += x.text
		n++
	}
	f := parsed(t, more)
	c, err := Of(f)
	if err != api.OK || fmt.Sprint(c) != fmt.Sprint(want) || !slices.Equal(Used(f), indices) {
		t.Errorf("%s\nwith more: %v, %v, %v\n     want: %v, %v", more, c, err, Used(f), want, indices)
	}
}
