package trace

import (
	"strconv"
	"strings"

	"cloister/api"
)

// sheet is lines that are written, word by word.
type sheet struct {
	strings.Builder
	begun bool // the last line has a word
}

func (s *sheet) observation(o api.Obs, kinds []tail) {
	kind := kinds[o.Kind]
	s.decimal(o.Tick)
	s.decimal(uint64(o.Cell))
	s.word(kind.word)
	s.hexadecimal(uint64(o.PC), wordDigits)
	kind.write(s, o)
	s.end()
}

func (s *sheet) word(w string) {
	if s.begun {
		s.WriteString(blank)
	}
	s.WriteString(w)
	s.begun = true
}

func (s *sheet) decimal(n uint64) { s.word(decimal(n)) }

func (s *sheet) hexadecimal(n uint64, digits int) { s.word(hexadecimal(n, digits)) }

func (s *sheet) end() {
	s.WriteString(newline)
	s.begun = false
}

func decimal(n uint64) string { return strconv.FormatUint(n, 10) }

// hexadecimal has just so many digits, of a number that has no more.
func hexadecimal(n uint64, digits int) string {
	s := strconv.FormatUint(n, 16)
	return strings.Repeat("0", digits-len(s)) + s
}
