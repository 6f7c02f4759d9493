package parse

// sizes are the sizes in bytes that integers have.
var sizes = [...]int{1, 2, 3, 4, 8}

// keywords are the keywords that are not integers.
var keywords = [...]string{
	"const", "struct", "pack", "where", "sizeof", "countof", "crc32", "adler32", "bytes", "zero",
	"skip", "window", "at", "rest", "tail", "none", "switch", "case", "else",
}

// Keyword reports whether s is a keyword, and so no name.
func Keyword(s string) bool {
	for _, word := range keywords {
		if s == word {
			return true
		}
	}
	_, _, ok := Integer(s)
	return ok
}

// Integer returns the size in bytes of the integer with this word, whether it is
// little-endian, and whether there is one. One byte counts as big-endian.
func Integer(word string) (int, bool, bool) {
	for _, size := range sizes {
		if word == Word(size, false) {
			return size, false, true
		}
		if word == Word(size, true) {
			return size, true, true
		}
	}
	return 0, false, false
}

// Word returns the word of an integer of so many bytes; the empty string if
// there is none.
func Word(size int, little bool) string {
	order := "be"
	if little {
		order = "le"
	}
	switch size {
	case 1:
		return "u8"
	case 2:
		return "u16" + order
	case 3:
		return "u24" + order
	case 4:
		return "u32" + order
	case 8:
		return "u64" + order
	}
	return ""
}

// Level returns the level of a binary operator: the greater, the more tightly
// it binds. It returns 0 for any other text.
func Level(op string) int {
	switch op {
	case "||":
		return 1
	case "&&":
		return 2
	case "==", "!=", "<", "<=", ">", ">=":
		return 3
	case "|":
		return 4
	case "&":
		return 5
	case "<<", ">>":
		return 6
	case "+", "-":
		return 7
	case "*", "/", "%":
		return 8
	}
	return 0
}
