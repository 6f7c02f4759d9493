package show

import (
	"strconv"
	"strings"

	"calliper/api"
	"calliper/parse"
)

// above is a level that no operator has: above that of all of them.
const above = 9

// printer writes parts of a file. The file may be any, so it can name parts that
// are not there, or that are parts of themselves.
type printer struct {
	file *parse.File
	text strings.Builder
}

// noText is raised at what has no text, and where the text becomes too long.
type noText struct{}

// write returns what is written of a file, and whether it has a text that is not
// too long.
func write(f *parse.File, what func(*printer)) (text string, ok bool) {
	defer func() {
		switch x := recover().(type) {
		case nil, noText:
		default:
			panic(x)
		}
	}()
	p := printer{file: f}
	what(&p)
	return p.text.String(), true
}

// expect ends the writing unless there is a text.
func (p *printer) expect(has bool) {
	if !has {
		panic(noText{})
	}
}

// put writes texts one after the other. That it stops where they become too long
// also ends the writing of a part that stands in too many places.
func (p *printer) put(texts ...string) {
	for _, text := range texts {
		p.expect(len(text) <= api.MaxText-p.text.Len())
		p.text.WriteString(text)
	}
}

func (p *printer) number(n uint64) {
	p.put(strconv.FormatUint(n, 10))
}

// list writes n elements in parentheses, and nothing at all if there are none.
func (p *printer) list(n int, element func(i int)) {
	for i := range n {
		if i == 0 {
			p.put("(")
		} else {
			p.put(", ")
		}
		element(i)
	}
	if n > 0 {
		p.put(")")
	}
}

// all writes the whole file.
func (p *printer) all() {
	// As each expression and each type has a token of its own, more of them have no
	// place in a text. So no part is nested more deeply than this.
	p.expect(len(p.file.Exprs) <= api.MaxText && len(p.file.Types) <= api.MaxText)
	for _, c := range p.file.Consts {
		p.put("const ", c.Name, " = ")
		p.number(c.N)
		p.put(";\n")
	}
	for _, s := range p.file.Structs {
		p.structure(s)
	}
}

func (p *printer) structure(s parse.Struct) {
	p.put("struct ", s.Name)
	p.list(len(s.Params), func(i int) { p.put(s.Params[i]) })
	p.put(" {\n")
	for _, x := range s.Items {
		p.put("  ")
		if len(x.Subs) > 0 {
			p.pack(x)
		} else {
			p.field(x)
		}
		p.put("\n")
	}
	p.put("}\n")
}

func (p *printer) pack(x parse.Item) {
	p.put("pack ", parse.Word(x.Size, x.Little), " {")
	for _, s := range x.Subs {
		p.put(" ", s.Name, ": ", strconv.Itoa(s.Bits), ";")
	}
	p.put(" }")
}

func (p *printer) field(x parse.Item) {
	p.put(x.Name, ": ")
	p.typ(x.Type, len(p.file.Types))
	switch x.Der {
	case parse.Free:
	case parse.SizeOf:
		p.put(" = sizeof(", x.A, ")")
	case parse.CountOf:
		p.put(" = countof(", x.A, ")")
	case parse.Crc:
		p.put(" = crc32(", x.A, "..", x.B, ")")
	case parse.Adler:
		p.put(" = adler32(", x.A, "..", x.B, ")")
	default:
		p.expect(false)
	}
	if x.Where != -1 {
		p.put(" where ")
		p.expr(x.Where, len(p.file.Exprs))
	}
	p.put(";")
}
