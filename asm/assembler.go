package asm

import (
	"strings"

	"cloister/api"
	"cloister/isa"
)

const (
	wordBytes      = 4
	placesEnd      = 1 << 32 // behind all places
	leastWord      = -1 << 31
	mostWord       = 1<<32 - 1
	returnRegister = 15
)

// part is what a word has of its value.
type part int

const (
	whole part = iota // all 32 bits, and nothing else
	upper             // in an instruction, as its number: the upper bits of 32
	lower             // likewise: the lowerBits
	exact             // likewise: the very value
)

// draft is a word that waits until all labels are known.
type draft struct {
	line  int
	part  part
	instr api.Instr
	value value
}

// assembler is what is known of a source as far as it was read.
type assembler struct {
	line       // that is read now
	statements map[string]func(*assembler) statement
	names      []string // labels of this line
	moved      bool     // the origin was said
	origin     int64
	drafts     []draft
	labels     []api.Label
	places     map[string]int64 // of the labels
}

func newAssembler() *assembler {
	return &assembler{statements: statements(), places: map[string]int64{}}
}

func (a *assembler) read(source string) {
	for n, text := range strings.Split(source, "\n") {
		a.line = newLine(n+1, text)
		a.names = a.labelNames()
		s := a.statement()
		a.end()
		a.enterLabels()
		a.lay(s)
	}
}

// labelNames reads the labels of a line: whatever has a colon behind it must
// be one, also where a statement is called so.
func (a *assembler) labelNames() []string {
	var names []string
	for len(a.rest) > 1 && a.rest[1].text == ":" {
		name := a.take().text
		if !isName(name) {
			panic(a.wrong(api.ErrAsmSyntax))
		}
		a.sign(":")
		names = append(names, name)
	}
	return names
}

// enterLabels asks of all of them whether they were there before it asks about
// their place, as the order of the errors has it.
func (a *assembler) enterLabels() {
	at := a.place(len(a.drafts))
	for _, name := range a.names {
		if _, there := a.places[name]; there {
			panic(a.wrong(api.ErrAsmTwice))
		}
		a.places[name] = at
		a.labels = append(a.labels, api.Label{Name: name, At: uint32(at)})
	}
	if len(a.names) > 0 && at >= placesEnd {
		panic(a.wrong(api.ErrAsmRange))
	}
}

// place of the word n of the image.
func (a *assembler) place(n int) int64 { return a.origin + wordBytes*int64(n) }

// lay puts a statement's words behind the others.
func (a *assembler) lay(s statement) {
	if s.moves {
		a.setOrigin(s.origin)
	}
	if s.zeros < 0 || s.zeros > api.MaxImage {
		panic(a.wrong(api.ErrAsmRange))
	}
	for _, d := range append(s.drafts, make([]draft, s.zeros)...) {
		d.line = a.at
		a.drafts = append(a.drafts, d)
	}
	if len(a.drafts) > api.MaxImage || a.place(len(a.drafts)) > placesEnd {
		panic(a.wrong(api.ErrAsmRange))
	}
}

func (a *assembler) setOrigin(n int64) {
	if n < 0 || n >= placesEnd || n%wordBytes != 0 {
		panic(a.wrong(api.ErrAsmRange))
	}
	a.moved, a.origin = true, n
}

// image is made when all lines were read.
func (a *assembler) image() api.Image {
	m := api.Image{Origin: uint32(a.origin), Labels: a.labels}
	for n, d := range a.drafts {
		m.Words = append(m.Words, d.word(a.meaning(n)))
	}
	return m
}

// meaning is the number for which the value of the word n stands.
func (a *assembler) meaning(n int) int64 {
	d := a.drafts[n]
	if d.value.name == "" {
		return d.value.number
	}
	at, there := a.places[d.value.name]
	switch {
	case !there:
		panic(wrong{api.ErrAsmName, d.line})
	case goesByDistance(d.instr.Op):
		return (at - a.place(n)) / wordBytes
	}
	return at
}

// word is what a draft comes to, with its value's meaning.
func (d draft) word(v int64) uint32 {
	if d.part == exact {
		return d.instruction(v)
	}
	if v < leastWord || v > mostWord {
		panic(wrong{api.ErrAsmRange, d.line})
	}
	switch bits := uint32(v); d.part {
	case upper:
		return d.instruction(int64(bits >> lowerBits))
	case lower:
		return d.instruction(int64(bits % (1 << lowerBits)))
	default:
		return bits
	}
}

func (d draft) instruction(v int64) uint32 {
	i := d.instr
	i.Imm = int32(v)
	w, e := isa.Encode(i)
	if e != api.OK || int64(i.Imm) != v {
		panic(wrong{api.ErrAsmRange, d.line})
	}
	return w
}
