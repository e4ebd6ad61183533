package audit

import (
	"slices"

	"cloister/api"
	"cloister/valid"
)

// cell is what was declared of one, and what it has come to.
type cell struct {
	lines    []int
	room     uint64 // how many ticks are left of a window where a step begins, at least
	writers  []int  // of the queues that it reads, each once
	longest  int    // message that it can receive
	halted   bool
	sent     int // messages
	received int
}

func cellOf(g api.Config, number int) cell {
	c := cell{
		lines: g.Cells[number-1].Lines,
		room:  valid.MaxStep(g, number) + valid.Switch(g, number),
	}
	for _, q := range g.Queues {
		if q.Reader != number {
			continue
		}
		c.longest = max(c.longest, q.Size)
		if !slices.Contains(c.writers, q.Writer) {
			c.writers = append(c.writers, q.Writer)
		}
	}
	return c
}

// note keeps what later observations are held against.
func (c *cell) note(o api.Obs) {
	switch {
	case isHalt(o):
		c.halted = true
	case isSent(o):
		c.sent++
	case isReceived(o):
		c.received++
	}
}
