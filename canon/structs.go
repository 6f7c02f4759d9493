package canon

import (
	"slices"

	"calliper/parse"
)

// The files here have correct names, so all that a struct refers to stands before it.

// depths returns the depths of the structs of a file, by their indices there.
func depths(f *parse.File) []int {
	var list []int
	for _, s := range f.Structs {
		depth := 1
		eachRef(f, s, func(ref int) { depth = max(depth, 1+list[ref]) })
		list = append(list, depth)
	}
	return list
}

// used returns the indices of the root and of the structs that it uses, the least one
// first. When a struct is reached from behind, all that could use it have been seen.
func used(f *parse.File) []int {
	wanted := make([]bool, len(f.Structs))
	wanted[len(wanted)-1] = true
	var list []int
	for at, s := range slices.Backward(f.Structs) {
		if wanted[at] {
			list = append(list, at)
			eachRef(f, s, func(ref int) { wanted[ref] = true })
		}
	}
	slices.Reverse(list)
	return list
}

// fieldsWith returns the names of the fields of a struct whose types contain one of a
// kind. That a struct which they name contains one does not count.
func fieldsWith(f *parse.File, s parse.Struct, kind parse.TypeKind) []string {
	var list []string
	last := -1
	eachType(f, s, func(item int, t parse.Type) {
		if t.Kind == kind && item != last {
			list = append(list, s.Items[item].Name)
			last = item
		}
	})
	return list
}

// eachRef passes the indices of the structs that a struct refers to to see, as often as
// it does.
func eachRef(f *parse.File, s parse.Struct, see func(ref int)) {
	eachType(f, s, func(_ int, t parse.Type) {
		if t.Kind == parse.Ref {
			see(structAt(f, t.Name))
		}
	})
}

func structAt(f *parse.File, name string) int {
	return slices.IndexFunc(f.Structs, func(s parse.Struct) bool { return s.Name == name })
}

// eachType passes all types of a struct to see, each with the index of its item: the
// types of the fields, and what these are made of. Those of one item follow each other.
func eachType(f *parse.File, s parse.Struct, see func(item int, t parse.Type)) {
	for item, x := range s.Items {
		// A pack has no type.
		if x.Type >= 0 {
			eachPart(f, x.Type, func(t parse.Type) { see(item, t) })
		}
	}
}

// eachPart passes a type and all that it is made of to see.
func eachPart(f *parse.File, at int, see func(t parse.Type)) {
	t := f.Types[at]
	see(t)
	if t.Inner >= 0 {
		eachPart(f, t.Inner, see)
	}
	for _, x := range t.Cases {
		eachPart(f, x.Type, see)
	}
}
