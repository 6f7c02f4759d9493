package names

import "calliper/parse"

// eachName passes the names in an expression to see, in the order of its text.
func eachName(f *parse.File, at int, see func(name string)) {
	x := f.Exprs[at]
	if x.Kind == parse.Name {
		see(x.Name)
	}
	for _, kid := range x.Kids {
		eachName(f, kid, see)
	}
}

// eachDeciding passes the expressions in a type that decide on the form of its values to
// see: those that a value does not tell by its own length, and those of switches and of
// the args of structs.
func eachDeciding(f *parse.File, at int, see func(at int)) {
	t := f.Types[at]
	switch t.Kind {
	case parse.Switch, parse.Zero, parse.Skip:
		see(t.Expr)
	}
	for _, arg := range t.Args {
		see(arg)
	}
	for _, x := range t.Cases {
		eachDeciding(f, x.Type, see)
	}
	if t.Inner >= 0 {
		eachDeciding(f, t.Inner, see)
	}
}
