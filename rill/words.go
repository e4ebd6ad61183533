package rill

import (
	"strings"

	"cloister/api"
)

const (
	comment     = '#'
	newline     = '\n'
	blanks      = " \t\n\r"
	hexadecimal = "0x" // ahead of such a number
	mainName    = "main"
)

// keywords stand for themselves alone.
var keywords = [...]string{"array", "func", "var", "if", "else", "while", "bound", "forever", "return"}

type builtIn struct {
	name  string
	takes int
}

var builtIns = [...]builtIn{
	{"say", 1}, {"who", 0}, {"left", 0}, {"clock", 0}, {"wait", 0}, {"halt", 0},
	{"mask", 1}, {"pending", 0}, {"write", 2}, {"read", 1}, {"send", 2}, {"recv", 1}, {"told", 0},
}

func isBlank(c byte) bool { return strings.IndexByte(blanks, c) >= 0 }

func isDigit(c byte) bool { return c >= '0' && c <= '9' }

func isHexadecimal(c byte) bool { return isDigit(c) || c >= 'a' && c <= 'f' }

func isLetter(c byte) bool { return c >= 'a' && c <= 'z' || c >= 'A' && c <= 'Z' || c == '_' }

func isOfWord(c byte) bool { return isLetter(c) || isDigit(c) }

// ahead tells how many bytes of this kind a text begins with.
func ahead(text string, kind func(byte) bool) int {
	n := 0
	for n < len(text) && kind(text[n]) {
		n++
	}
	return n
}

func isWord(text string) bool {
	return text != "" && isLetter(text[0]) && ahead(text, isOfWord) == len(text)
}

func isNumber(text string) bool { return text != "" && isDigit(text[0]) }

func isName(text string) bool {
	return isWord(text) && len(text) <= api.MaxName && !isKeyword(text) && !isBuiltIn(text)
}

func isKeyword(text string) bool {
	for _, k := range keywords {
		if k == text {
			return true
		}
	}
	return false
}

func isBuiltIn(text string) bool {
	_, is := taken(text)
	return is
}

// taken tells how many values a built-in takes; false, if it is none.
func taken(name string) (int, bool) {
	for _, b := range builtIns {
		if b.name == name {
			return b.takes, true
		}
	}
	return 0, false
}
