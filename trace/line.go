package trace

import (
	"slices"
	"strconv"
	"strings"

	"cloister/api"
)

const (
	blank   = " "
	newline = "\n"
	comment = "#" // what the first word of a line begins with that tells nothing
)

// wrong is what a line that is none is given up with, by panic.
type wrong struct{ line int }

// lineOf passes on what is no wrong line: that would be a fault of the program.
func lineOf(given any) int {
	w, ok := given.(wrong)
	if !ok {
		panic(given)
	}
	return w.line
}

// line is what is left of a line, without blanks ahead.
type line struct {
	at   int // counted from 1 on
	rest string
}

func readLines(s string) []api.Obs {
	var all []api.Obs
	kinds := tails()
	at := 0
	for text := range strings.SplitSeq(s, newline) {
		at++
		if l := newLine(at, text); l.tells() {
			all = append(all, l.observation(kinds))
		}
	}
	return all
}

func newLine(at int, text string) *line { return &line{at, strings.TrimLeft(text, blank)} }

func (l *line) tells() bool { return l.rest != "" && !strings.HasPrefix(l.rest, comment) }

func (l *line) observation(kinds []tail) api.Obs {
	var o api.Obs
	o.Tick = l.decimal(api.MaxTick)
	o.Cell = int(l.decimal(api.MaxCells))
	o.Kind = l.kind(kinds)
	o.PC = uint32(l.hexadecimal(wordDigits))
	kinds[o.Kind].read(l, &o)
	l.hold(l.rest == "" && mayBe(o))
	return o
}

// hold gives the line up, unless this is so.
func (l *line) hold(so bool) {
	if !so {
		panic(wrong{l.at})
	}
}

// word is the next one: blanks alone part words, any other byte is of one.
func (l *line) word() string {
	w, rest, _ := strings.Cut(l.rest, blank)
	l.hold(w != "")
	l.rest = strings.TrimLeft(rest, blank)
	return w
}

func (l *line) kind(kinds []tail) api.ObsKind {
	w := l.word()
	kind := slices.IndexFunc(kinds, func(t tail) bool { return t.word == w })
	l.hold(kind >= 0)
	return api.ObsKind(kind)
}

// decimal is a number of at most so much. A number has one form alone: that in
// which it is written.
func (l *line) decimal(most uint64) uint64 {
	w := l.word()
	n, err := strconv.ParseUint(w, 10, 64)
	l.hold(err == nil && n <= most && decimal(n) == w)
	return n
}

func (l *line) hexadecimal(digits int) uint64 {
	w := l.word()
	n, err := strconv.ParseUint(w, 16, 64)
	l.hold(err == nil && len(w) == digits && hexadecimal(n, digits) == w)
	return n
}
