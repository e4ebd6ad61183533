package hyper

import (
	"math"

	"cloister/api"
	"cloister/valid"
)

// Numbers of hypercalls.
const (
	callNone = iota
	callWrite
	callRead
	callSend
	callReceive
	callMask
	callWaiting
	callNumber
	callSay
	callLeft
	callWait
	callHalt
)

// Codes of what went wrong.
const (
	codeWho uint32 = math.MaxUint32 - iota
	codeLong
	codeFull
	codeNothing
	codeAlign
	codeNumber
)

// deedOf is what is done for a number: it tells what R1 is then.
func deedOf(number uint32) func(*call) uint32 {
	deeds := [...]func(*call) uint32{
		callNone:    (*call).unknown,
		callWrite:   (*call).write,
		callRead:    (*call).read,
		callSend:    (*call).send,
		callReceive: (*call).receive,
		callMask:    (*call).mask,
		callWaiting: (*call).waiting,
		callNumber:  (*call).number,
		callSay:     (*call).say,
		callLeft:    (*call).left,
		callWait:    (*call).wait,
		callHalt:    (*call).halt,
	}
	if number >= uint32(len(deeds)) {
		return (*call).unknown
	}
	return deeds[number]
}

func (c *call) unknown() uint32 { return codeNumber }

func (c *call) mask() uint32 {
	c.machine.Gic.Mask(c.cell, c.regs.R[r1])
	return 0
}

func (c *call) waiting() uint32 { return c.machine.Gic.Waiting(c.cell) }

func (c *call) number() uint32 { return uint32(c.cell) }

func (c *call) say() uint32 {
	c.answer.Said = true
	return c.regs.R[r1]
}

// left asks ahead whether the tick is one at all: the time table takes later
// ones for the last one.
func (c *call) left() uint32 {
	if c.tick > api.MaxTick {
		return 0
	}
	h := c.machine.Hours
	k, in := h.At(c.tick)
	if !in || h.Owner(k) != c.cell {
		return 0
	}
	toEnd := h.Start(k) + h.Length(k) - c.tick
	return uint32(toEnd - min(toEnd, valid.Switch(c.machine.Config, c.cell)))
}

func (c *call) wait() uint32 {
	c.answer.Waits = true
	return 0
}

func (c *call) halt() uint32 {
	c.answer.Halts = true
	return 0
}
