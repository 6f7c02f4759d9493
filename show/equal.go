package show

import (
	"slices"

	"calliper/parse"
)

// Equal reports whether two files have the same consts, structs, expressions and
// types. No file is the same as none.
func Equal(a, b *parse.File) bool {
	if a == nil || b == nil {
		return a == b
	}
	return slices.Equal(a.Consts, b.Consts) &&
		slices.EqualFunc(a.Structs, b.Structs, sameStruct) &&
		slices.EqualFunc(a.Exprs, b.Exprs, sameExpr) &&
		slices.EqualFunc(a.Types, b.Types, sameType)
}

func sameStruct(a, b parse.Struct) bool {
	return a.Name == b.Name && slices.Equal(a.Params, b.Params) && slices.EqualFunc(a.Items, b.Items, sameItem)
}

func sameItem(a, b parse.Item) bool {
	return a.Name == b.Name && a.Type == b.Type && a.Der == b.Der && a.A == b.A && a.B == b.B &&
		a.Where == b.Where && a.Size == b.Size && a.Little == b.Little && slices.Equal(a.Subs, b.Subs)
}

func sameExpr(a, b parse.Expr) bool {
	return a.Kind == b.Kind && a.Op == b.Op && a.N == b.N && a.Name == b.Name && slices.Equal(a.Kids, b.Kids)
}

func sameType(a, b parse.Type) bool {
	return a.Kind == b.Kind && a.Size == b.Size && a.Little == b.Little && a.Name == b.Name &&
		slices.Equal(a.Args, b.Args) && a.Expr == b.Expr && a.Inner == b.Inner && slices.Equal(a.Cases, b.Cases)
}
