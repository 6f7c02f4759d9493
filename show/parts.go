package show

import "calliper/parse"

// exprAt returns the expression at an index below limit. That a part has to stand
// ahead of what it is a part of ends the writing of one that is a part of itself.
func (p *printer) exprAt(at, limit int) parse.Expr {
	p.expect(at >= 0 && at < limit)
	return p.file.Exprs[at]
}

// expr writes the expression at an index below limit.
func (p *printer) expr(at, limit int) {
	x := p.exprAt(at, limit)
	switch x.Kind {
	case parse.Num:
		p.number(x.N)
	case parse.Name:
		p.put(x.Name)
	case parse.Not:
		p.expect(len(x.Kids) == 1)
		p.put("!")
		p.operand(x.Kids[0], at, above)
	case parse.Bin:
		p.expect(len(x.Kids) == 2)
		level := parse.Level(x.Op)
		p.operand(x.Kids[0], at, level)
		p.put(" ", x.Op, " ")
		p.operand(x.Kids[1], at, level+1)
	default:
		p.expect(false)
	}
}

// operand writes an operand at an index below limit, in parentheses if it is a Bin
// of a level below least.
func (p *printer) operand(at, limit, least int) {
	x := p.exprAt(at, limit)
	if x.Kind != parse.Bin || parse.Level(x.Op) >= least {
		p.expr(at, limit)
		return
	}
	p.put("(")
	p.expr(at, limit)
	p.put(")")
}

// typ writes the type at an index below limit, which bounds its parts likewise.
func (p *printer) typ(at, limit int) {
	p.expect(at >= 0 && at < limit)
	t := p.file.Types[at]
	switch t.Kind {
	case parse.Int:
		p.put(parse.Word(t.Size, t.Little))
	case parse.Bytes:
		p.index("bytes", t)
	case parse.Zero:
		p.index("zero", t)
	case parse.Skip:
		p.index("skip", t)
	case parse.Tail:
		p.put("tail")
	case parse.Array:
		p.typ(t.Inner, at)
		p.index("", t)
	case parse.Rest:
		p.put("rest ")
		p.typ(t.Inner, at)
	case parse.Window:
		p.index("window", t)
		p.put(" ")
		p.typ(t.Inner, at)
	case parse.At:
		p.index("at", t)
		p.put(" ")
		p.typ(t.Inner, at)
	case parse.Switch:
		p.choice(t, at)
	case parse.Ref:
		p.ref(t)
	case parse.None:
		p.put("none")
	default:
		p.expect(false)
	}
}

// index writes a word, and behind it the expression of a type in brackets.
func (p *printer) index(word string, t parse.Type) {
	p.put(word, "[")
	p.expr(t.Expr, len(p.file.Exprs))
	p.put("]")
}

// choice writes a switch. The types of its cases are at indices below limit.
func (p *printer) choice(t parse.Type, limit int) {
	p.put("switch (")
	p.expr(t.Expr, len(p.file.Exprs))
	p.put(") {")
	for _, c := range t.Cases {
		p.put(" case ")
		p.number(c.N)
		p.put(": ")
		p.typ(c.Type, limit)
		p.put(";")
	}
	if t.Inner != -1 {
		p.put(" else: ")
		p.typ(t.Inner, limit)
		p.put(";")
	}
	p.put(" }")
}

func (p *printer) ref(t parse.Type) {
	p.put(t.Name)
	p.list(len(t.Args), func(i int) { p.expr(t.Args[i], len(p.file.Exprs)) })
}
