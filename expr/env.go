package expr

import (
	"slices"

	"calliper/parse"
)

// Var is a name with its number.
type Var struct {
	Name string
	N    uint64
}

// Env is an environment: names with their numbers. Of one name the last one counts.
type Env []Var

// Get returns the number of a name; false if it has none.
func (e Env) Get(name string) (uint64, bool) {
	for _, v := range slices.Backward(e) {
		if v.Name == name {
			return v.N, true
		}
	}
	return 0, false
}

// With returns a new environment with one more name.
func (e Env) With(name string, n uint64) Env {
	// A plain append could write behind the end of e, where another one may stand.
	return slices.Concat(e, Env{{Name: name, N: n}})
}

// Consts returns the environment of the consts of a file; an empty one if there is no
// file.
func Consts(f *parse.File) Env {
	if f == nil {
		return nil
	}
	var e Env
	for _, c := range f.Consts {
		e = append(e, Var{Name: c.Name, N: c.N})
	}
	return e
}
