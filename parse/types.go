package parse

import "calliper/api"

// addType returns the index of a type that is made of the types so far.
func (p *parser) addType(t Type) int {
	p.file.Types = append(p.file.Types, t)
	return len(p.file.Types) - 1
}

// beginsType reports whether a type begins with the next token.
func (p *parser) beginsType() bool {
	text := p.tokens[0].Text
	switch text {
	case "bytes", "zero", "skip", "window", "at", "rest", "tail", "none", "switch":
		return true
	}
	_, _, ok := Integer(text)
	return ok || p.atName()
}

// inner reads a type that is enclosed by another.
func (p *parser) inner() int {
	return p.nested(p.beginsType(), p.readType)
}

// readType reads a type, and returns its index in Types.
func (p *parser) readType() int {
	p.expect(p.beginsType())
	t := Type{Expr: -1, Inner: -1}
	switch {
	case p.take("bytes"):
		t.Kind, t.Expr = Bytes, p.readIndex()
	case p.take("zero"):
		t.Kind, t.Expr = Zero, p.readIndex()
	case p.take("skip"):
		t.Kind, t.Expr = Skip, p.readIndex()
	case p.take("window"):
		t.Kind, t.Expr = Window, p.readIndex()
		t.Inner = p.inner()
	case p.take("at"):
		t.Kind, t.Expr = At, p.readIndex()
		t.Inner = p.inner()
	case p.take("rest"):
		t.Kind, t.Inner = Rest, p.inner()
	case p.take("tail"):
		t.Kind = Tail
	case p.take("none"):
		t.Kind = None
	case p.take("switch"):
		t.Kind = Switch
		p.readSwitch(&t)
	default:
		return p.readElement()
	}
	return p.addType(t)
}

// readIndex reads an expression in brackets.
func (p *parser) readIndex() int {
	p.need("[")
	at := p.readExpr()
	p.need("]")
	return at
}

// readSwitch reads what follows the keyword.
func (p *parser) readSwitch(t *Type) {
	p.need("(")
	t.Expr = p.readExpr()
	p.need(")")
	p.need("{")
	for p.atText("case") {
		p.room(len(t.Cases), api.MaxItems)
		p.read()
		n := p.number()
		t.Cases = append(t.Cases, Case{N: n, Type: p.readBranch()})
	}
	if p.take("else") {
		t.Inner = p.readBranch()
	}
	p.need("}")
}

// readBranch reads the type of a case.
func (p *parser) readBranch() int {
	p.need(":")
	at := p.inner()
	p.need(";")
	return at
}

// readElement reads an integer or the name of a struct, and the array of these
// that it may be.
func (p *parser) readElement() int {
	at := p.addType(p.readSingle())
	if !p.atText("[") {
		return at
	}
	return p.addType(Type{Kind: Array, Expr: p.readIndex(), Inner: at})
}

func (p *parser) readSingle() Type {
	t := Type{Kind: Ref, Expr: -1, Inner: -1}
	word := p.read().Text
	if size, little, ok := Integer(word); ok {
		t.Kind, t.Size, t.Little = Int, size, little
		return t
	}
	t.Name = word
	if p.take("(") {
		t.Args = p.readArgs()
	}
	return t
}

// readArgs reads what follows the parenthesis.
func (p *parser) readArgs() []int {
	l := []int{p.readExpr()}
	for p.take(",") {
		p.expect(p.beginsExpr())
		p.room(len(l), api.MaxItems)
		l = append(l, p.readExpr())
	}
	p.need(")")
	return l
}
