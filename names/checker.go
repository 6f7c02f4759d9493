package names

import (
	"calliper/api"
	"calliper/bits"
	"calliper/parse"
)

// key is a name with what owns it: the struct that defines it, by its index, or the
// whole file. What one struct owns is not seen from another.
type key struct {
	owner int
	name  string
}

// ofFile is the owner of the consts.
const ofFile = -1

// meaning is what a name is defined as.
type meaning int

const (
	undefined meaning = iota
	// number is what expressions can name.
	number
	// hidden is a field that is not known.
	hidden
)

// checker checks a printable file from its beginning on.
type checker struct {
	file *parse.File
	// names are those defined so far. Structs are not among them, as no expression
	// names one.
	names map[key]meaning
	// at is the owner of what is defined next, and item the index of the item that
	// is checked.
	at, item int
}

// wrong is what is raised at a name that is wrong.
type wrong struct {
	name string
	err  api.Errno
}

// expect raises an error about a name unless all is well with it.
func (c *checker) expect(well bool, name string, err api.Errno) {
	if !well {
		panic(wrong{name: name, err: err})
	}
}

// find returns what a name means to the owner at hand. None of them defines the name of
// a const again.
func (c *checker) find(name string) meaning {
	if m := c.names[key{owner: ofFile, name: name}]; m != undefined {
		return m
	}
	return c.names[key{owner: c.at, name: name}]
}

// expectNew expects that a name has no meaning so far.
func (c *checker) expectNew(name string) {
	c.expect(c.find(name) == undefined, name, api.ErrThere)
}

func (c *checker) define(name string, m meaning) {
	c.expectNew(name)
	c.names[key{owner: c.at, name: name}] = m
}

func (c *checker) checkFile() {
	f := c.file
	c.at = ofFile
	for _, x := range f.Consts {
		c.define(x.Name, number)
	}
	for c.at = range f.Structs {
		c.checkStruct(f.Structs[c.at])
	}
	c.expect(len(f.Structs) > 0, "", api.ErrNone)
	root := f.Structs[len(f.Structs)-1]
	c.expect(len(root.Params) == 0, root.Name, api.ErrArg)
}

func (c *checker) checkStruct(s parse.Struct) {
	c.expect(structAt(c.file, s.Name) == c.at, s.Name, api.ErrThere)
	for _, param := range s.Params {
		c.define(param, number)
	}
	for c.item = range s.Items {
		if x := s.Items[c.item]; isPack(x) {
			c.checkPack(x)
		} else {
			c.checkField(s, x)
		}
	}
}

func (c *checker) checkPack(x parse.Item) {
	var widths []int
	for _, sub := range x.Subs {
		widths = append(widths, sub.Bits)
	}
	_, err := bits.Lay(8*x.Size, widths)
	c.expect(err == api.OK, x.Subs[0].Name, api.ErrArg)
	for _, sub := range x.Subs {
		c.define(sub.Name, number)
	}
}
