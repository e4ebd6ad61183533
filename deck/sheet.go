package deck

import (
	"slices"
	"strings"

	"cloister/api"
)

// rowBytes are those of a load that stand in one line.
const rowBytes = 16

// sheet is lines that are written, word by word, as long as they are not too
// long together.
type sheet struct {
	strings.Builder
	names []api.Cell
	begun bool // the last line has a word
}

// put gives up as soon as there is too much: so much more may be left that it
// had better not be written at all.
func (s *sheet) put(text string) {
	if s.Len()+len(text) > api.MaxSource {
		panic(wrong{e: api.ErrDeckLong})
	}
	s.WriteString(text)
}

func (s *sheet) word(w string) {
	if s.begun {
		s.put(blank)
	}
	s.put(w)
	s.begun = true
}

func (s *sheet) end() {
	s.put(newline)
	s.begun = false
}

func (s *sheet) counts(all ...int) {
	for _, n := range all {
		s.word(decimalOf(uint64(n)))
	}
}

func (s *sheet) ticks(all ...uint64) {
	for _, n := range all {
		s.word(decimalOf(n))
	}
}

func (s *sheet) addresses(all ...uint32) {
	for _, n := range all {
		s.word(addressOf(n))
	}
}

// named writes the names of cells, by their numbers.
func (s *sheet) named(all ...int) {
	for _, n := range all {
		s.word(s.names[n-1].Name)
	}
}

// bytes are one word, or none, if there are none.
func (s *sheet) bytes(all []byte) {
	var w []byte
	for _, b := range all {
		w = append(w, numerals[b>>4], numerals[b&15])
	}
	if len(w) > 0 {
		s.word(string(w))
	}
}

func (s *sheet) machine(g api.Config) {
	s.word("pages")
	s.counts(g.Pages)
	s.end()
	s.word("own")
	s.addresses(g.OwnBase)
	s.counts(g.OwnPages)
	s.end()
	s.word("cache")
	s.counts(g.Shape.Sets, g.Shape.Ways, g.Shape.Line)
	s.end()
	s.word("tlb")
	s.counts(g.Slots)
	s.end()
	s.word("major")
	s.ticks(g.Major)
	s.end()
}

func (s *sheet) cells(g api.Config) {
	for _, c := range g.Cells {
		s.word("cell")
		s.word(c.Name)
		s.addresses(c.Entry)
		s.end()
		s.ranges(c)
		s.interrupts(c)
	}
}

func (s *sheet) ranges(c api.Cell) {
	for _, r := range c.Ranges {
		s.word("range")
		s.addresses(r.Virtual, r.Physical)
		s.counts(r.Pages)
		s.word(permTexts[r.Perm])
		s.end()
	}
}

func (s *sheet) interrupts(c api.Cell) {
	if len(c.Lines) == 0 {
		return
	}
	s.word("lines")
	s.counts(c.Lines...)
	s.end()
}

func (s *sheet) windows(g api.Config) {
	for _, w := range g.Windows {
		s.word("window")
		s.named(w.Cell)
		s.ticks(w.Start, w.Length)
		s.end()
	}
}

func (s *sheet) ports(g api.Config) {
	for _, p := range g.Samples {
		s.word("sample")
		s.named(p.Writer)
		s.counts(p.Size)
		s.named(p.Readers...)
		s.end()
	}
	for _, q := range g.Queues {
		s.word("queue")
		s.named(q.Writer, q.Reader)
		s.counts(q.Size, q.Depth, q.Quota)
		s.word(kindOf(q.Flow))
		s.end()
	}
}

func (s *sheet) loads(all []api.Load) {
	for _, l := range all {
		n := min(len(l.Data), rowBytes)
		s.word("data")
		s.named(l.Cell)
		s.addresses(l.At)
		s.bytes(l.Data[:n])
		s.end()
		for row := range slices.Chunk(l.Data[n:], rowBytes) {
			s.word("more")
			s.bytes(row)
			s.end()
		}
	}
}
