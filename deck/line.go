package deck

import (
	"strconv"
	"strings"

	"cloister/api"
)

// line is what is left of the words of a line.
type line struct {
	at   int // counted from 1 on
	rest []string
}

func newLine(at int, text string) line {
	l := line{at: at}
	text = ahead(text)
	l.hold(isPlain(text), api.ErrDeckToken)
	l.rest = strings.FieldsFunc(text, partsWords)
	return l
}

// hold gives the line up, unless this is so.
func (l *line) hold(so bool, e api.Errno) {
	if !so {
		panic(wrong{e, l.at})
	}
}

// just asks how many words are left.
func (l *line) just(n int) { l.hold(len(l.rest) == n, api.ErrDeckSyntax) }

func (l *line) atLeast(n int) { l.hold(len(l.rest) >= n, api.ErrDeckSyntax) }

func (l *line) isEnd() bool { return len(l.rest) == 0 }

func (l *line) word() string {
	w := l.rest[0]
	l.rest = l.rest[1:]
	return w
}

func (l *line) number(most uint64) uint64 {
	digits, base, ok := digitsOf(l.word())
	l.hold(ok, api.ErrDeckSyntax)
	// They are digits: nothing is wrong with them but that they may be too many.
	n, err := strconv.ParseUint(digits, base, 64)
	l.hold(err == nil && n <= most, api.ErrDeckRange)
	return n
}

func (l *line) count() int { return int(l.number(mostNumber)) }

func (l *line) address() uint32 { return uint32(l.number(mostNumber)) }

func (l *line) tick() uint64 { return l.number(mostTick) }

func (l *line) name() string {
	w := l.word()
	l.hold(isName(w), api.ErrDeckSyntax)
	return w
}

func (l *line) perm() api.Perm {
	w := l.word()
	for p, text := range permTexts {
		if text == w {
			return api.Perm(p)
		}
	}
	panic(wrong{api.ErrDeckSyntax, l.at})
}

// isFlow reads a queue's kind.
func (l *line) isFlow() bool {
	w := l.word()
	l.hold(w == flow || w == oneWay, api.ErrDeckSyntax)
	return w == flow
}

// bytes reads all words that are left.
func (l *line) bytes() []byte {
	var all []byte
	for !l.isEnd() {
		b, ok := bytesOf(l.word())
		l.hold(ok, api.ErrDeckSyntax)
		all = append(all, b...)
	}
	return all
}
