package names

import (
	"slices"

	"calliper/api"
	"calliper/parse"
)

func (c *checker) checkField(s parse.Struct, x parse.Item) {
	c.expectNew(x.Name)
	c.checkType(x.Name, x.Type)
	if slices.ContainsFunc(s.Items[:c.item], func(y parse.Item) bool { return measures(y) && y.A == x.Name }) {
		c.checkForm(s, x)
	}
	// The field is defined only here, as its type cannot name it, but its condition can.
	if known(c.file, x) {
		c.define(x.Name, number)
	} else {
		c.define(x.Name, hidden)
	}
	c.checkDerived(s, x)
	if x.Where >= 0 {
		c.checkExpr(x.Where)
	}
}

// checkExpr expects that all names in an expression are in scope.
func (c *checker) checkExpr(at int) {
	eachName(c.file, at, func(name string) {
		c.expect(c.find(name) == number, name, api.ErrNone)
	})
}

// checkType checks a type of a field in the order of the type's text.
func (c *checker) checkType(field string, at int) {
	t := c.file.Types[at]
	switch t.Kind {
	case parse.Bytes, parse.Zero, parse.Skip:
		c.checkExpr(t.Expr)
	case parse.Array:
		c.checkType(field, t.Inner)
		c.checkExpr(t.Expr)
	case parse.Rest:
		c.checkType(field, t.Inner)
	case parse.Window, parse.At:
		c.checkExpr(t.Expr)
		c.checkType(field, t.Inner)
	case parse.Switch:
		c.checkSwitch(field, t)
	case parse.Ref:
		c.checkRef(t)
	}
}

func (c *checker) checkSwitch(field string, t parse.Type) {
	c.checkExpr(t.Expr)
	for i, x := range t.Cases {
		again := slices.ContainsFunc(t.Cases[:i], func(y parse.Case) bool { return y.N == x.N })
		c.expect(!again, field, api.ErrThere)
	}
	for _, x := range t.Cases {
		c.checkType(field, x.Type)
	}
	if t.Inner >= 0 {
		c.checkType(field, t.Inner)
	}
}

func (c *checker) checkRef(t parse.Type) {
	at := structAt(c.file, t.Name)
	c.expect(at >= 0 && at < c.at, t.Name, api.ErrNone)
	c.expect(len(t.Args) == len(c.file.Structs[at].Params), t.Name, api.ErrArg)
	for _, arg := range t.Args {
		c.checkExpr(arg)
	}
}

// measures reports whether a field is derived by measuring another.
func measures(x parse.Item) bool {
	return x.Der == parse.SizeOf || x.Der == parse.CountOf
}

// checkForm expects that nothing that decides on the form of a measured field names a
// measure: as measures are found from forms, the form could not be found first.
func (c *checker) checkForm(s parse.Struct, x parse.Item) {
	isMeasure := func(name string) bool {
		return slices.ContainsFunc(s.Items, func(y parse.Item) bool { return measures(y) && y.Name == name })
	}
	eachDeciding(c.file, x.Type, func(at int) {
		eachName(c.file, at, func(name string) {
			c.expect(!isMeasure(name), x.Name, api.ErrState)
		})
	})
}

func (c *checker) checkDerived(s parse.Struct, x parse.Item) {
	t := c.file.Types[x.Type]
	switch x.Der {
	case parse.SizeOf, parse.CountOf:
		c.expect(t.Kind == parse.Int, x.Name, api.ErrArg)
		c.checkMeasure(s, x)
	case parse.Crc, parse.Adler:
		c.expect(t.Kind == parse.Int && t.Size == 4, x.Name, api.ErrArg)
		c.checkSum(s, x)
	}
}

// checkMeasure checks what a field measures.
func (c *checker) checkMeasure(s parse.Struct, x parse.Item) {
	at := Field(s, x.A)
	c.expect(at > c.item, x.A, api.ErrNone)
	if x.Der == parse.CountOf {
		kind := c.file.Types[s.Items[at].Type].Kind
		c.expect(kind == parse.Array || kind == parse.Rest, x.A, api.ErrArg)
	}
}

// checkSum checks what a field is the checksum of.
func (c *checker) checkSum(s parse.Struct, x parse.Item) {
	first, last := Field(s, x.A), Field(s, x.B)
	c.expect(first >= 0 && first < c.item, x.A, api.ErrNone)
	c.expect(last >= 0 && last < c.item, x.B, api.ErrNone)
	c.expect(first <= last, x.Name, api.ErrArg)
}
