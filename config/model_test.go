package config_test

import (
	"cloister/api"
	"cloister/wire"
)

// modelBlob writes the table of the chapter down, row by row, of a
// configuration that can be written.
func modelBlob(g api.Config) []byte {
	var b []byte
	number := func(bytes int, n uint64) {
		for i := range bytes {
			b = append(b, byte(n>>(8*i)))
		}
	}
	list := func(numbers []int) {
		for _, n := range numbers {
			b = append(b, byte(n))
		}
	}
	pad := func() {
		for len(b)%4 != 0 {
			b = append(b, 0)
		}
	}
	number(4, uint64(g.Pages))
	number(4, uint64(g.OwnBase))
	number(4, uint64(g.OwnPages))
	for _, n := range []int{g.Shape.Sets, g.Shape.Ways, g.Shape.Line, g.Slots} {
		number(2, uint64(n))
	}
	number(8, g.Major)
	list([]int{len(g.Cells), len(g.Windows), len(g.Samples), len(g.Queues)})
	for _, c := range g.Cells {
		b = append(b, byte(len(c.Name)))
		b = append(b, c.Name...)
		pad()
		number(4, uint64(c.Entry))
		list([]int{len(c.Ranges), len(c.Lines), 0, 0})
		for _, r := range c.Ranges {
			number(4, uint64(r.Virtual))
			number(4, uint64(r.Physical))
			number(4, uint64(r.Pages))
			number(4, uint64(r.Perm))
		}
		list(c.Lines)
		pad()
	}
	for _, w := range g.Windows {
		number(4, uint64(w.Cell))
		number(8, w.Start)
		number(8, w.Length)
	}
	for _, s := range g.Samples {
		list([]int{s.Writer, len(s.Readers), s.Size, s.Size >> 8})
		list(s.Readers)
		pad()
	}
	for _, q := range g.Queues {
		list([]int{q.Writer, q.Reader, q.Size, q.Size >> 8, q.Depth, q.Depth >> 8, q.Quota, q.Quota >> 8})
		flow := map[bool]byte{true: 1}[q.Flow]
		b = append(b, flow, 0, 0, 0)
	}
	return sealed(b)
}

// told is what Decode answers.
type told struct {
	g     api.Config
	e     api.Errno
	place int
}

func modelDecode(b []byte) told {
	little := func(b []byte) (n uint64) {
		for i := range b {
			n |= uint64(b[i]) << (8 * i)
		}
		return n
	}
	if len(b) < 8 || string(b[:8]) != "CLST\x01\x00\x00\x00" {
		return told{e: api.ErrConfigMagic}
	}
	if len(b) < 12 || uint64(len(b)) < 12+little(b[8:12])+4 {
		return told{e: api.ErrConfigShort, place: 8}
	}
	sumAt := 12 + int(little(b[8:12]))
	if len(b) > sumAt+4 {
		return told{e: api.ErrConfigBehind, place: sumAt + 4}
	}
	if uint32(little(b[sumAt:])) != wire.Sum(b[:sumAt]) {
		return told{e: api.ErrConfigSum, place: sumAt}
	}
	w := walker{b: b[:sumAt], at: 12}
	g, place := w.config()
	if place >= 0 {
		return told{e: api.ErrConfigForm, place: place}
	}
	return told{g: g}
}

// walker goes along a blob up to its body's end, and gives up at the first
// place at which something is wrong.
type walker struct {
	b  []byte
	at int
}

type stuck int

func (w *walker) number(bytes int) uint64 {
	if w.at+bytes > len(w.b) {
		panic(stuck(w.at))
	}
	n := uint64(0)
	for i := range bytes {
		n |= uint64(w.b[w.at+i]) << (8 * i)
	}
	w.at += bytes
	return n
}

func (w *walker) text(bytes int) string {
	if w.at+bytes > len(w.b) {
		panic(stuck(w.at))
	}
	w.at += bytes
	return string(w.b[w.at-bytes : w.at])
}

func (w *walker) pad() {
	to := (w.at + 3) / 4 * 4
	if to > len(w.b) {
		panic(stuck(w.at))
	}
	for ; w.at < to; w.at++ {
		if w.b[w.at] != 0 {
			panic(stuck(w.at))
		}
	}
}

// config is what stands there, and -1; or nothing, and where it is wrong.
func (w *walker) config() (g api.Config, place int) {
	defer func() {
		if given := recover(); given != nil {
			g, place = api.Config{}, int(given.(stuck))
		}
	}()
	g.Pages, g.OwnBase, g.OwnPages = int(w.number(4)), uint32(w.number(4)), int(w.number(4))
	g.Shape = api.Shape{Sets: int(w.number(2)), Ways: int(w.number(2)), Line: int(w.number(2))}
	g.Slots, g.Major = int(w.number(2)), w.number(8)
	cells, windows, samples, queues := w.number(1), w.number(1), w.number(1), w.number(1)
	for range cells {
		g.Cells = append(g.Cells, w.cell())
	}
	for range windows {
		cell := int(w.number(1))
		w.pad()
		g.Windows = append(g.Windows, api.Window{Cell: cell, Start: w.number(8), Length: w.number(8)})
	}
	for range samples {
		s := api.Sample{Writer: int(w.number(1))}
		readers := w.number(1)
		s.Size = int(w.number(2))
		for range readers {
			s.Readers = append(s.Readers, int(w.number(1)))
		}
		w.pad()
		g.Samples = append(g.Samples, s)
	}
	for range queues {
		q := api.Queue{Writer: int(w.number(1)), Reader: int(w.number(1))}
		q.Size, q.Depth, q.Quota = int(w.number(2)), int(w.number(2)), int(w.number(2))
		flow := w.number(1)
		if flow > 1 {
			panic(stuck(w.at - 1))
		}
		q.Flow = flow == 1
		w.pad()
		g.Queues = append(g.Queues, q)
	}
	if w.at < len(w.b) {
		panic(stuck(w.at))
	}
	return g, -1
}

func (w *walker) cell() api.Cell {
	c := api.Cell{Name: w.text(int(w.number(1)))}
	w.pad()
	c.Entry = uint32(w.number(4))
	ranges, lines := w.number(1), w.number(1)
	w.pad()
	for range ranges {
		r := api.Range{Virtual: uint32(w.number(4)), Physical: uint32(w.number(4)), Pages: int(w.number(4)), Perm: api.Perm(w.number(1))}
		w.pad()
		c.Ranges = append(c.Ranges, r)
	}
	for range lines {
		c.Lines = append(c.Lines, int(w.number(1)))
	}
	w.pad()
	return c
}
