package lab

import (
	"slices"
	"strings"
)

// reader goes over a script, line by line.
type reader struct {
	lines []string
	next  int      // how many lines were read
	at    int      // the line that is read now, counted from 1 on
	words []string // what is left of its words
}

func newReader(script string) *reader { return &reader{lines: strings.Split(script, newline)} }

func (r *reader) read() []order {
	var orders []order
	all := commands()
	for r.next < len(r.lines) {
		r.enter()
		if !r.says() {
			continue
		}
		c, there := all[r.word()]
		r.hold(there)
		orders = append(orders, r.order(c))
	}
	return orders
}

// enter goes to the next line.
func (r *reader) enter() {
	text := r.lines[r.next]
	r.next++
	r.at = r.next
	r.hold(isPlain(text))
	r.words = strings.Fields(text)
}

func (r *reader) says() bool {
	return len(r.words) > 0 && !strings.HasPrefix(r.words[0], comment)
}

// hold gives the line up, unless this is so.
func (r *reader) hold(so bool) {
	if !so {
		panic(wrong{r.at})
	}
}

// word is the next one; an empty one, which is of no form, if none is left.
func (r *reader) word() string {
	if len(r.words) == 0 {
		return ""
	}
	w := r.words[0]
	r.words = r.words[1:]
	return w
}

// order reads just what a command needs.
func (r *reader) order(c command) order {
	o := order{command: c}
	for _, k := range c.takes {
		switch k {
		case aNumber:
			o.numbers = append(o.numbers, r.number())
		case anAddress:
			o.numbers = append(o.numbers, r.address())
		case aName:
			o.name = r.name()
		case ownLines:
			o.text = r.ownText()
		}
	}
	r.hold(len(r.words) == 0)
	return o
}

func (r *reader) number() uint64 {
	n, ok := numberOf(r.word())
	r.hold(ok)
	return n
}

func (r *reader) address() uint64 {
	n, ok := addressOf(r.word())
	r.hold(ok)
	return n
}

func (r *reader) name() string {
	w := r.word()
	r.hold(isName(w))
	return w
}

// ownText is the lines behind this one, up to that which ends them: it has been
// read with them.
func (r *reader) ownText() string {
	behind := r.lines[r.next:]
	n := slices.Index(behind, endOfDeck)
	r.hold(n >= 0)
	r.next += n + 1
	return strings.Join(behind[:n], newline)
}
