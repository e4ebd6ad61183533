package mean

import (
	"slices"

	"cloister/api"
)

// The numbers by which the one outside is asked.
const (
	askWrite uint32 = iota + 1
	askRead
	askSend
	askRecv
	askMask
	askPending
	askWho
	askSay
	askLeft
	askWait
	askHalt

	askClock       = 100
	askReadMessage = 102
	askRecvMessage = 104
)

const leastMessage = 4 // bytes of one that has a number

type builtIn struct {
	name         string
	first, again uint32 // again: when there is a message; 0: never
}

var builtIns = [...]builtIn{
	{"say", askSay, 0},
	{"who", askWho, 0},
	{"left", askLeft, 0},
	{"clock", askClock, 0},
	{"wait", askWait, 0},
	{"halt", askHalt, 0},
	{"mask", askMask, 0},
	{"pending", askPending, 0},
	{"write", askWrite, 0},
	{"send", askSend, 0},
	{"read", askRead, askReadMessage},
	{"recv", askRecv, askRecvMessage},
}

// builtIn: one that asks for nothing is told.
func (p *program) builtIn(name string, numbers []uint32) uint32 {
	for _, b := range builtIns {
		if b.name == name {
			return p.asks(b, numbers)
		}
	}
	return p.told
}

func (p *program) asks(b builtIn, numbers []uint32) uint32 {
	answer := p.ask(b.first, numbers...)
	switch {
	case b.first == askHalt:
		panic(ended{api.OK})
	case b.again == 0:
		return answer
	}
	p.told = answer
	if answer < leastMessage || answer > api.MaxMessage {
		return 0
	}
	return p.ask(b.again, numbers...)
}

// ask hands out a copy: whoever is asked may keep it, and write into it.
func (p *program) ask(number uint32, args ...uint32) uint32 {
	return p.outer.Call(number, slices.Clone(args)...)
}
