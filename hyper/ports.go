package hyper

import (
	"slices"

	"cloister/api"
)

func (c *call) write() uint32 {
	p, d, there := portOf(c.machine.Samples, c.machine.Config.Samples, c.regs.R[r1])
	if !there || d.Writer != c.cell {
		return codeWho
	}
	return c.give(d.Size, p.Write)
}

func (c *call) read() uint32 {
	p, d, there := portOf(c.machine.Samples, c.machine.Config.Samples, c.regs.R[r1])
	if !there || !slices.Contains(d.Readers, c.cell) {
		return codeWho
	}
	return c.take(p.Read)
}

func (c *call) send() uint32 {
	p, d, there := portOf(c.machine.Queues, c.machine.Config.Queues, c.regs.R[r1])
	if !there || d.Writer != c.cell {
		return codeWho
	}
	return c.give(d.Size, p.Send)
}

func (c *call) receive() uint32 {
	p, d, there := portOf(c.machine.Queues, c.machine.Config.Queues, c.regs.R[r1])
	if !there || d.Reader != c.cell {
		return codeWho
	}
	return c.take(p.Receive)
}

// portOf is the port of a number, and how it was declared, if there is one.
func portOf[P, D any](ports []*P, declared []D, number uint32) (p *P, d D, there bool) {
	n := uint64(number)
	if n >= uint64(len(ports)) || n >= uint64(len(declared)) {
		return nil, d, false
	}
	return ports[n], declared[n], ports[n] != nil
}

// give hands a message of the cell's memory to a port that it writes.
func (c *call) give(size int, hand func(cell int, tick uint64, data []byte) api.Errno) uint32 {
	at, n := c.regs.R[r2], c.regs.R[r3]
	if int64(n) > int64(size) || n%wordBytes != 0 {
		return codeLong
	}
	if at%wordBytes != 0 {
		return codeAlign
	}
	if hand(c.cell, c.tick, c.load(at, n)) == api.ErrQueuingFull {
		return codeFull
	}
	return 0
}

// take lays the message of a port that the cell reads into its memory. The
// address is looked at ahead of the port: what is received is gone.
func (c *call) take(ask func(cell int) ([]byte, uint64, bool, api.Errno)) uint32 {
	at := c.regs.R[r2]
	if at%wordBytes != 0 {
		return codeAlign
	}
	data, tick, there, _ := ask(c.cell)
	if !there {
		return codeNothing
	}
	c.store(at, data)
	c.regs.R[r2], c.regs.R[r3] = uint32(tick), uint32(tick>>32)
	return uint32(len(data))
}
