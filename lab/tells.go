package lab

import (
	"slices"
	"strconv"
	"strings"

	"cloister/api"
	"cloister/deck"
	"cloister/graph"
	"cloister/trace"
)

// allCells is what a trace and a digest are asked for, where they are to tell of
// all.
const allCells = 0

func (b *bench) now(order) api.Errno {
	b.line("now", decimal(b.machine.Now()))
	return api.OK
}

func (b *bench) trace(o order) api.Errno {
	l := b.seen
	if cell := o.count(0); cell != allCells {
		l = slices.Collect(trace.Of(cell, b.seen...))
	}
	if !b.told.take(uint64(len(l))) {
		return api.ErrLabLong
	}
	text, e := trace.Text(l...)
	if e != api.OK {
		return e
	}
	b.line("trace", decimal(uint64(len(l))))
	b.WriteString(text)
	return api.OK
}

func (b *bench) digest(o order) api.Errno {
	if !b.work.take(uint64(len(b.seen))) {
		return api.ErrLabLong
	}
	b.line("digest", hexadecimal(digestOf(o.count(0), b.seen)))
	return api.OK
}

func digestOf(cell int, l []api.Obs) uint32 {
	if cell != allCells {
		return trace.Digest(cell, l...)
	}
	var sum uint32
	for i := range api.MaxCells {
		sum ^= trace.Digest(i+1, l...)
	}
	return sum
}

func (b *bench) regs(o order) api.Errno {
	c, e := b.machine.Cell(o.count(0))
	if e != api.OK {
		return e
	}
	words := []string{"regs", hexadecimal(c.Regs.PC)}
	for _, n := range c.Regs.R[1:] {
		words = append(words, hexadecimal(n))
	}
	if c.Halted {
		words = append(words, "halted")
	}
	b.line(words...)
	return api.OK
}

func (b *bench) peek(o order) api.Errno {
	if o.numbers[2] > api.MaxPeek {
		return api.ErrLabLong
	}
	bytes, e := b.machine.Peek(o.count(0), o.address(1), o.count(2))
	if e != api.OK {
		return e
	}
	b.line("=", bytesWord(bytes))
	return api.OK
}

func (b *bench) stat(o order) api.Errno {
	s, e := b.machine.Stat(o.count(0))
	if e != api.OK {
		return e
	}
	b.line("stat", strconv.Itoa(s.Accepted), strconv.Itoa(s.Received), strconv.Itoa(s.Queued), strconv.Itoa(s.Staged), strconv.Itoa(s.Lost))
	return api.OK
}

func (b *bench) part(o order) api.Errno {
	kept := b.kept[o.name]
	if !b.work.take(uint64(len(b.seen) + len(kept))) {
		return api.ErrLabLong
	}
	b.line("part", strconv.Itoa(trace.Part(o.count(0), b.seen, kept)))
	return api.OK
}

func (b *bench) sources(o order) api.Errno {
	words := []string{"sources"}
	for _, cell := range graph.Sources(b.plan.config, o.count(0)) {
		words = append(words, strconv.Itoa(cell))
	}
	b.line(words...)
	return api.OK
}

func (b *bench) printPlan(order) api.Errno {
	s, e := deck.Print(b.plan.config, b.plan.loads...)
	if e != api.OK {
		return e
	}
	b.line("print", strconv.Itoa(strings.Count(s, newline)))
	b.WriteString(s)
	return api.OK
}
