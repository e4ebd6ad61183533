package deck

import (
	"slices"
	"strings"

	"cloister/api"
	"cloister/asm"
)

// parser is what is known of a deck as far as it was read.
type parser struct {
	line    // that is read now
	texts   []string
	said    map[string]int // the lines of words that may stand once alone
	numbers map[string]int // of the cells, by their names
	coded   bool           // the last load is a program's
	config  api.Config
	loads   []api.Load
}

func newParser(s string) *parser {
	return &parser{texts: strings.Split(s, newline), said: map[string]int{}, numbers: map[string]int{}}
}

// deeds are what is done for each line, by its first word.
func deeds() map[string]func(*parser) {
	return map[string]func(*parser){
		"pages":  (*parser).pages,
		"own":    (*parser).own,
		"cache":  (*parser).cache,
		"tlb":    (*parser).tlb,
		"major":  (*parser).major,
		"cell":   (*parser).cell,
		"range":  (*parser).ranged,
		"lines":  (*parser).interrupts,
		"window": (*parser).window,
		"sample": (*parser).sample,
		"queue":  (*parser).queue,
		"data":   (*parser).data,
		"more":   (*parser).more,
		"code":   (*parser).code,
	}
}

func (p *parser) read() {
	all := deeds()
	for p.at < len(p.texts) {
		p.line = newLine(p.at+1, p.texts[p.at])
		if p.isEnd() {
			continue
		}
		do, ok := all[p.word()]
		p.hold(ok, api.ErrDeckSyntax)
		do(p)
	}
}

// once is asked when all words of the line were read: what is wrong with these
// is told ahead of it.
func (p *parser) once(word string) {
	_, there := p.said[word]
	p.hold(!there, api.ErrDeckTwice)
	p.said[word] = p.at
}

// named reads a cell's name, and tells its number.
func (p *parser) named() int {
	n, there := p.numbers[p.name()]
	p.hold(there, api.ErrDeckName)
	return n
}

// lastCell is given up on, if there is none.
func (p *parser) lastCell() *api.Cell {
	n := len(p.config.Cells)
	p.hold(n > 0, api.ErrDeckSyntax)
	return &p.config.Cells[n-1]
}

func (p *parser) lay(l api.Load, coded bool) {
	p.loads, p.coded = append(p.loads, l), coded
}

// source is the lines behind this one, up to that which ends a program.
func (p *parser) source() string {
	behind := p.texts[p.at:]
	n := slices.IndexFunc(behind, endsCode)
	p.hold(n >= 0, api.ErrDeckSyntax)
	var b strings.Builder
	for _, text := range behind[:n] {
		b.WriteString(text + newline)
	}
	return b.String()
}

// assembled is the load of a program. The assembler counts from the line behind
// this one on, and tells 0 where it means none.
func (p *parser) assembled(cell int, source string) api.Load {
	image, e, n := asm.Assemble(source)
	if e != api.OK {
		panic(wrong{api.ErrDeckSource, p.at + n})
	}
	l := api.Load{Cell: cell, At: image.Origin}
	for _, w := range image.Words {
		l.Data = append(l.Data, byte(w), byte(w>>8), byte(w>>16), byte(w>>24))
	}
	return l
}
