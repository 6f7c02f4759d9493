package parse

// addExpr returns the index of an expression of the expressions so far.
func (p *parser) addExpr(x Expr) int {
	p.file.Exprs = append(p.file.Exprs, x)
	return len(p.file.Exprs) - 1
}

// beginsExpr reports whether an expression begins with the next token. With the
// same tokens begins what stands between operators.
func (p *parser) beginsExpr() bool {
	return p.atText("!") || p.atText("(") || p.atNumber() || p.atName()
}

// readExpr reads an expression, and returns its index in Exprs.
func (p *parser) readExpr() int {
	return p.readBin(1)
}

// readBin reads operands and what stands between them, as far as the operators
// are of this level or greater. What follows an operator binds to it if it is
// of a greater level, as operators of one level group from the left.
func (p *parser) readBin(level int) int {
	at := p.readUnary()
	for Level(p.tokens[0].Text) >= level {
		op := p.read().Text
		right := p.readBin(Level(op) + 1)
		at = p.addExpr(Expr{Kind: Bin, Op: op, Kids: []int{at, right}})
	}
	return at
}

func (p *parser) readUnary() int {
	switch {
	case p.take("!"):
		kid := p.nested(p.beginsExpr(), p.readUnary)
		return p.addExpr(Expr{Kind: Not, Kids: []int{kid}})
	case p.take("("):
		at := p.nested(p.beginsExpr(), p.readExpr)
		p.need(")")
		return at
	case p.atNumber():
		return p.addExpr(Expr{Kind: Num, N: p.number()})
	}
	return p.addExpr(Expr{Kind: Name, Name: p.name()})
}
