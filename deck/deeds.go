package deck

import (
	"strings"

	"cloister/api"
)

func (p *parser) pages() {
	p.just(1)
	p.config.Pages = p.count()
	p.once("pages")
}

func (p *parser) own() {
	p.just(2)
	p.config.OwnBase = p.address()
	p.config.OwnPages = p.count()
	p.once("own")
}

func (p *parser) cache() {
	p.just(3)
	p.config.Shape = api.Shape{Sets: p.count(), Ways: p.count(), Line: p.count()}
	p.once("cache")
}

func (p *parser) tlb() {
	p.just(1)
	p.config.Slots = p.count()
	p.once("tlb")
}

func (p *parser) major() {
	p.just(1)
	p.config.Major = p.tick()
	p.once("major")
}

func (p *parser) cell() {
	p.just(2)
	c := api.Cell{Name: p.name(), Entry: p.address()}
	_, there := p.numbers[c.Name]
	p.hold(!there, api.ErrDeckTwice)
	p.config.Cells = append(p.config.Cells, c)
	p.numbers[c.Name] = len(p.config.Cells)
}

func (p *parser) ranged() {
	p.just(4)
	c := p.lastCell()
	r := api.Range{Virtual: p.address(), Physical: p.address(), Pages: p.count(), Perm: p.perm()}
	c.Ranges = append(c.Ranges, r)
}

func (p *parser) interrupts() {
	p.atLeast(1)
	c := p.lastCell()
	for !p.isEnd() {
		c.Lines = append(c.Lines, p.count())
	}
}

func (p *parser) window() {
	p.just(3)
	w := api.Window{Cell: p.named(), Start: p.tick(), Length: p.tick()}
	p.config.Windows = append(p.config.Windows, w)
}

func (p *parser) sample() {
	p.atLeast(2)
	s := api.Sample{Writer: p.named(), Size: p.count()}
	for !p.isEnd() {
		s.Readers = append(s.Readers, p.named())
	}
	p.config.Samples = append(p.config.Samples, s)
}

func (p *parser) queue() {
	p.just(6)
	q := api.Queue{Writer: p.named(), Reader: p.named(), Size: p.count(), Depth: p.count(), Quota: p.count(), Flow: p.isFlow()}
	p.config.Queues = append(p.config.Queues, q)
}

func (p *parser) data() {
	p.atLeast(2)
	p.lay(api.Load{Cell: p.named(), At: p.address(), Data: p.bytes()}, false)
}

func (p *parser) more() {
	p.atLeast(1)
	n := len(p.loads)
	p.hold(n > 0 && !p.coded, api.ErrDeckSyntax)
	l := &p.loads[n-1]
	l.Data = append(l.Data, p.bytes()...)
}

func (p *parser) code() {
	p.just(1)
	cell := p.named()
	source := p.source()
	p.lay(p.assembled(cell, source), true)
	// The line that ends it has been read with it.
	p.at += strings.Count(source, newline) + 1
}
