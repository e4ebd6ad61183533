package asm

import (
	"strconv"
	"strings"

	"cloister/api"
)

// kind is what a token is.
type kind int

const (
	tokenEnd kind = iota // none: the line is at its end
	tokenWord
	tokenNumber
	tokenSign
)

const (
	blanks   = " \t"
	signs    = ",:()"
	numerals = "0123456789abcdef"

	// beyond is above all numbers that may be: what is as great is kept as
	// this, so that none of any length wraps.
	beyond = 1 << 40
)

// token of a line; the number is 0 but for a number.
type token struct {
	kind   kind
	text   string
	number int64
}

// line is what is left of the tokens of a line.
type line struct {
	at   int // counted from 1 on
	rest []token
}

func (l *line) wrong(e api.Errno) wrong { return wrong{e, l.at} }

// newLine splits a text, up to its comment.
func newLine(at int, text string) line {
	l := line{at: at}
	text, _, _ = strings.Cut(text, "#")
	for text = strings.TrimLeft(text, blanks); text != ""; text = strings.TrimLeft(text, blanks) {
		t := l.first(text)
		l.rest = append(l.rest, t)
		text = text[len(t.text):]
	}
	return l
}

// first is the token with which a text begins.
func (l *line) first(text string) token {
	switch c := text[0]; {
	case strings.IndexByte(signs, c) >= 0:
		return token{kind: tokenSign, text: text[:1]}
	case c == '-' || isDigit(c):
		return l.firstNumber(text)
	case isOfWord(c):
		return token{kind: tokenWord, text: text[:wordLength(text)]}
	}
	panic(l.wrong(api.ErrAsmToken))
}

// firstNumber takes all that a word could have behind its first letter, since
// nothing of that may stand directly behind a number.
func (l *line) firstNumber(text string) token {
	digits, below := strings.CutPrefix(text, "-")
	digits = digits[:wordLength(digits)]
	n, ok := numberOf(digits)
	if !ok {
		panic(l.wrong(api.ErrAsmToken))
	}
	if below {
		return token{kind: tokenNumber, text: text[:1+len(digits)], number: -n}
	}
	return token{kind: tokenNumber, text: digits, number: n}
}

// numberOf reads a number without a sign.
func numberOf(digits string) (int64, bool) {
	if rest, ok := strings.CutPrefix(digits, "0x"); ok {
		return digitsOf(rest, 16)
	}
	if len(digits) > 1 && digits[0] == '0' {
		return 0, false
	}
	return digitsOf(digits, 10)
}

func digitsOf(digits string, base int64) (int64, bool) {
	n := int64(0)
	for _, c := range []byte(digits) {
		d := strings.IndexByte(numerals[:base], c)
		if d < 0 {
			return 0, false
		}
		n = min(n*base+int64(d), beyond)
	}
	return n, digits != ""
}

func isDigit(c byte) bool { return c >= '0' && c <= '9' }

// isOfWord: a word may have it behind its first letter.
func isOfWord(c byte) bool {
	return c >= 'a' && c <= 'z' || c >= 'A' && c <= 'Z' || isDigit(c) || c == '_' || c == '.'
}

// wordLength is how many bytes from the text's beginning on a word may have.
func wordLength(s string) int {
	n := 0
	for n < len(s) && isOfWord(s[n]) {
		n++
	}
	return n
}

func registerOf(s string) (uint8, bool) {
	for n := range uint8(api.Registers) {
		if s == "r"+strconv.Itoa(int(n)) {
			return n, true
		}
	}
	return 0, false
}

func isName(s string) bool {
	if s == "" || len(s) > api.MaxName || isDigit(s[0]) {
		return false
	}
	if wordLength(s) < len(s) || strings.Contains(s, ".") {
		return false
	}
	_, isRegister := registerOf(s)
	return !isRegister
}
