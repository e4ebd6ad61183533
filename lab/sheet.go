package lab

import (
	"strings"

	"cloister/api"
)

// sheet is the lines that are told.
type sheet struct{ strings.Builder }

func (s *sheet) line(words ...string) { s.WriteString(strings.Join(words, blank) + newline) }

// ok is told, where nothing else is.
func (s *sheet) ok() api.Errno {
	s.line("ok")
	return api.OK
}
