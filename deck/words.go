package deck

import (
	"strconv"
	"strings"

	"cloister/api"
)

const (
	blank    = " "
	newline  = "\n"
	comment  = "#"
	blanks   = " \t"
	numerals = "0123456789abcdef"

	hexadecimal = "0x" // ahead of such a number
	flow        = "flow"
	oneWay      = "oneway"
	endOfCode   = "end"

	mostNumber = 1<<32 - 1
	mostTick   = 1<<64 - 1
	wordDigits = 8 // of an address
	byteDigits = 2
)

// permTexts stand by the permissions.
var permTexts = [...]string{"-", "r", "w", "rw", "x", "rx", "wx", "rwx"}

// isPlain: each byte is one of a word, or parts words.
func isPlain(text string) bool {
	for _, c := range []byte(text) {
		if c != '\t' && (c < ' ' || c > '~') {
			return false
		}
	}
	return true
}

func partsWords(r rune) bool { return strings.ContainsRune(blanks, r) }

// ahead is what stands ahead of a line's comment.
func ahead(text string) string {
	text, _, _ = strings.Cut(text, comment)
	return text
}

// endsCode: whatever its other bytes are, they stand in a comment.
func endsCode(text string) bool { return strings.Trim(ahead(text), blanks) == endOfCode }

func isName(s string) bool {
	if s == "" || len(s) > api.MaxName {
		return false
	}
	for _, c := range []byte(s) {
		if !isLetter(c) && !isDigit(c) {
			return false
		}
	}
	return true
}

func isLetter(c byte) bool { return c >= 'a' && c <= 'z' || c >= 'A' && c <= 'Z' }

func isDigit(c byte) bool { return c >= '0' && c <= '9' }

// digitsOf tells a number's digits, and their base; false, if it is not of a
// number's form, whatever its size.
func digitsOf(word string) (digits string, base int, ok bool) {
	digits, base = word, 10
	if rest, is := strings.CutPrefix(word, hexadecimal); is {
		digits, base = rest, 16
	} else if len(word) > 1 && word[0] == '0' {
		return "", 0, false
	}
	return digits, base, areDigits(digits, base)
}

func areDigits(s string, base int) bool {
	return s != "" && strings.Trim(s, numerals[:base]) == ""
}

// bytesOf reads two digits a byte.
func bytesOf(word string) ([]byte, bool) {
	if len(word)%byteDigits != 0 || !areDigits(word, 16) {
		return nil, false
	}
	var all []byte
	for i := 0; i < len(word); i += byteDigits {
		high, low := strings.IndexByte(numerals, word[i]), strings.IndexByte(numerals, word[i+1])
		all = append(all, byte(high<<4|low))
	}
	return all, true
}

func decimalOf(n uint64) string { return strconv.FormatUint(n, 10) }

func addressOf(n uint32) string {
	s := strconv.FormatUint(uint64(n), 16)
	return hexadecimal + strings.Repeat("0", wordDigits-len(s)) + s
}

func kindOf(isFlow bool) string {
	if isFlow {
		return flow
	}
	return oneWay
}
