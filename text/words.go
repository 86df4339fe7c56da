package text

import "gabion/api"

const (
	between   = ", "
	hexDigits = "0123456789abcdef"
)

var kindWords = [...]string{
	api.Bool:  "bool",
	api.Int:   "int",
	api.Float: "float",
	api.Text:  "text",
	api.Bytes: "bytes",
	api.Opt:   "opt",
	api.List:  "list",
}

// kindOf is the kind of a word; None, which has the empty one, if there is no other.
func kindOf(word string) int {
	for kind, w := range kindWords {
		if w == word {
			return kind
		}
	}
	return api.None
}

func isLetter(r rune) bool {
	return r >= 'a' && r <= 'z'
}

func isDigit(r rune) bool {
	return r >= '0' && r <= '9'
}

func inName(r rune) bool {
	return isLetter(r) || isDigit(r) || r == '_'
}

func inInt(r rune) bool {
	return isDigit(r) || r == '-'
}

func inFloat(r rune) bool {
	return isLetter(r) || inInt(r)
}

// isPlain tells whether a byte stands for itself within quotes, unless it is the quote or the backslash.
func isPlain(r rune) bool {
	return r >= 0x20 && r <= 0x7e
}
