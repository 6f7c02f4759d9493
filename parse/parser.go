package parse

import (
	"calliper/api"
	"calliper/lex"
)

// maxBits is the greatest number of bits that a sub tells: no integer has that
// many, so greater numbers need not be told apart, and have a place in an int.
const maxBits = 1048576

// parser reads the tokens of a description into a file. As the grammar is such
// that each token decides how to go on, the first token that cannot be read is
// the first one with which no description goes on.
type parser struct {
	// tokens are those not yet read. The End is never read.
	tokens []lex.Token
	file   File
	// depth is the number of nested constructs that enclose the next token.
	depth int
}

// fault is what is raised at a token that is wrong.
type fault struct {
	at  lex.Pos
	err api.Errno
}

// fail raises a fault at the next token.
func (p *parser) fail(err api.Errno) {
	panic(fault{at: p.tokens[0].Pos, err: err})
}

// expect fails unless the next token begins what has to follow.
func (p *parser) expect(begins bool) {
	if !begins {
		p.fail(api.ErrForm)
	}
}

// room fails if there are as many as there may be of what the next token begins.
func (p *parser) room(have, most int) {
	if have == most {
		p.fail(api.ErrFull)
	}
}

// read returns the next token, and goes on behind it.
func (p *parser) read() lex.Token {
	t := p.tokens[0]
	p.tokens = p.tokens[1:]
	return t
}

// atText reports whether the next token is this keyword or Sign. No other token
// has such a text.
func (p *parser) atText(text string) bool {
	return p.tokens[0].Text == text
}

func (p *parser) atName() bool {
	return p.tokens[0].Kind == lex.Word && !Keyword(p.tokens[0].Text)
}

func (p *parser) atNumber() bool {
	return p.tokens[0].Kind == lex.Number
}

// take reads the next token if it is this keyword or Sign.
func (p *parser) take(text string) bool {
	if !p.atText(text) {
		return false
	}
	p.read()
	return true
}

func (p *parser) need(text string) {
	p.expect(p.take(text))
}

func (p *parser) name() string {
	p.expect(p.atName())
	return p.read().Text
}

func (p *parser) number() uint64 {
	p.expect(p.atNumber())
	return p.read().N
}

// nested reads a construct that is enclosed by one more than what is around it.
// That a token does not begin it is told ahead of its being too deep.
func (p *parser) nested(begins bool, read func() int) int {
	p.expect(begins)
	if p.depth == api.MaxDepth {
		p.fail(api.ErrDeep)
	}
	p.depth++
	at := read()
	p.depth--
	return at
}

func (p *parser) readFile() {
	f := &p.file
	for p.tokens[0].Kind != lex.End {
		switch {
		case p.atText("const"):
			p.room(len(f.Consts), api.MaxStructs)
			f.Consts = append(f.Consts, p.readConst())
		case p.atText("struct"):
			p.room(len(f.Structs), api.MaxStructs)
			f.Structs = append(f.Structs, p.readStruct())
		default:
			p.fail(api.ErrForm)
		}
	}
}

func (p *parser) readConst() Const {
	p.need("const")
	name := p.name()
	p.need("=")
	n := p.number()
	p.need(";")
	return Const{Name: name, N: n}
}

func (p *parser) readStruct() Struct {
	p.need("struct")
	s := Struct{Name: p.name()}
	if p.take("(") {
		s.Params = p.readParams()
	}
	p.need("{")
	for !p.take("}") {
		p.expect(p.atName() || p.atText("pack"))
		p.room(len(s.Items), api.MaxItems)
		s.Items = append(s.Items, p.readItem())
	}
	return s
}

// readParams reads what follows the parenthesis.
func (p *parser) readParams() []string {
	l := []string{p.name()}
	for p.take(",") {
		p.expect(p.atName())
		p.room(len(l), api.MaxItems)
		l = append(l, p.name())
	}
	p.need(")")
	return l
}

func (p *parser) readItem() Item {
	if p.take("pack") {
		return p.readPack()
	}
	x := Item{Name: p.name(), Where: -1}
	p.need(":")
	x.Type = p.readType()
	if p.take("=") {
		p.readDerived(&x)
	}
	if p.take("where") {
		x.Where = p.readExpr()
	}
	p.need(";")
	return x
}

// readPack reads what follows the keyword.
func (p *parser) readPack() Item {
	size, little, ok := Integer(p.tokens[0].Text)
	p.expect(ok)
	p.read()
	p.need("{")
	l := []Sub{p.readSub()}
	for !p.take("}") {
		p.expect(p.atName())
		p.room(len(l), api.MaxItems)
		l = append(l, p.readSub())
	}
	return Item{Type: -1, Where: -1, Size: size, Little: little, Subs: l}
}

func (p *parser) readSub() Sub {
	name := p.name()
	p.need(":")
	n := p.number()
	p.need(";")
	return Sub{Name: name, Bits: int(min(n, maxBits))}
}

// readDerived reads what follows the equals sign.
func (p *parser) readDerived(x *Item) {
	switch {
	case p.take("sizeof"):
		x.Der = SizeOf
	case p.take("countof"):
		x.Der = CountOf
	case p.take("crc32"):
		x.Der = Crc
	case p.take("adler32"):
		x.Der = Adler
	default:
		p.fail(api.ErrForm)
	}
	p.need("(")
	x.A = p.name()
	if x.Der == Crc || x.Der == Adler {
		p.need("..")
		x.B = p.name()
	}
	p.need(")")
}
