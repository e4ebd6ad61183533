package rill

import (
	"strconv"
	"strings"

	"cloister/api"
)

// token is a piece of a source; that at its end has no text.
type token struct {
	text   string
	at     int
	number uint32
}

// reader stands at a token. None behind it is looked at ahead of time, since
// what is wrong with this one is told first.
type reader struct {
	token
	source string
	behind int // where what comes behind the token begins
}

// hold gives the source up at the token, unless this is so.
func (r *reader) hold(so bool, e api.Errno) {
	if !so {
		panic(wrong{e, r.at})
	}
}

// step goes on to the next token.
func (r *reader) step() {
	r.skip()
	rest := r.source[r.behind:]
	r.token = token{at: r.behind}
	switch {
	case rest == "":
	case isLetter(rest[0]):
		r.text = rest[:ahead(rest, isOfWord)]
	case isDigit(rest[0]):
		r.text = numberAhead(rest)
		r.counted(rest[len(r.text):])
	default:
		r.text = signAhead(rest)
		r.hold(r.text != "", api.ErrRillToken)
	}
	r.behind += len(r.text)
}

// skip goes over blanks and comments.
func (r *reader) skip() {
	for {
		r.behind += ahead(r.source[r.behind:], isBlank)
		rest := r.source[r.behind:]
		if rest == "" || rest[0] != comment {
			return
		}
		r.behind += ahead(rest, isOfLine)
	}
}

func isOfLine(c byte) bool { return c != newline }

// numberAhead is the longest number that a text begins with.
func numberAhead(text string) string {
	if digits, is := strings.CutPrefix(text, hexadecimal); is {
		if n := ahead(digits, isHexadecimal); n > 0 {
			return text[:len(hexadecimal)+n]
		}
	}
	if text[0] == '0' {
		return text[:1]
	}
	return text[:ahead(text, isDigit)]
}

// counted reads what the number is; rest is what stands behind it.
func (r *reader) counted(rest string) {
	r.hold(rest == "" || !isOfWord(rest[0]), api.ErrRillToken)
	// It has a number's form: nothing is wrong with it but that it may be too great.
	n, err := strconv.ParseUint(r.text, 0, 32)
	r.hold(err == nil, api.ErrRillRange)
	r.number = uint32(n)
}
