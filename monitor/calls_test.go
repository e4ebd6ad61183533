package monitor_test

import (
	"slices"

	"cloister/api"
	"cloister/valid"
)

// call does a hypercall in plain words: what it costs; or what was refused,
// and where.
func (p *plain) call(number uint32, r *api.Regs) (uint64, api.Fault, uint32) {
	cycles := uint64(10)
	var fault api.Fault
	var at uint32
	after := *r
	switch number {
	case write, send:
		cycles, fault, at = p.give(number, &after)
	case read, receive:
		cycles, fault, at = p.take(number, &after)
	case mask:
		p.masked = p.masked&^p.own() | r.R[1]&p.own()
		after.R[1] = 0
	case waiting:
		after.R[1] = p.own() & p.pending &^ p.masked
	case whoAmI:
		after.R[1] = uint32(p.cell)
	case say:
	case left:
		after.R[1] = p.left()
	case wait, halt:
		after.R[1] = 0
	default:
		after.R[1] = 4294967290
	}
	if fault == api.FaultNone {
		*r = after
	}
	return cycles, fault, at
}

// left is how many ticks there are up to the end of the window, less Switch.
func (p *plain) left() uint32 {
	for _, w := range p.g.Windows {
		if at := p.tick % p.g.Major; w.Cell == p.cell && at >= w.Start && at < w.Start+w.Length {
			return uint32(w.Start + w.Length - valid.Switch(p.g, p.cell) - at)
		}
	}
	return 0
}

// give: a message goes from the cell's memory to a port.
func (p *plain) give(number uint32, r *api.Regs) (uint64, api.Fault, uint32) {
	port, at, n := r.R[1], r.R[2], r.R[3]
	size, own, fits := 0, false, true
	if number == write && port < uint32(len(p.samples)) {
		d := p.g.Samples[port]
		size, own = d.Size, d.Writer == p.cell
	}
	if number == send && port < uint32(len(p.queues)) {
		d, s := p.g.Queues[port], p.queues[port]
		size, own = d.Size, d.Writer == p.cell
		fits = d.Flow && len(s.Queued)+len(s.Staged) < d.Depth || !d.Flow && len(s.Staged) < d.Quota
	}
	if code := notGiven(own, n > uint32(size) || n%4 != 0, at%4 != 0); code != 0 {
		r.R[1] = code
		return 10, api.FaultNone, 0
	}
	message := api.Message{Tick: p.tick}
	cycles := uint64(10)
	for i := uint32(0); i < n; i += 4 {
		v, c, fault := p.get(at+i, 4, api.Read)
		cycles += uint64(c)
		if fault != api.FaultNone {
			return cycles, fault, at + i
		}
		message.Data = append(message.Data, byte(v), byte(v>>8), byte(v>>16), byte(v>>24))
	}
	switch {
	case !fits:
		r.R[1] = full
		return cycles, api.FaultNone, 0
	case number == write:
		p.samples[port].Waits, p.samples[port].Next = true, message
	default:
		s := &p.queues[port]
		s.Staged = append(s.Staged, message)
		s.Stat.Accepted++
		s.Stat.Staged++
	}
	r.R[1] = 0
	return cycles, api.FaultNone, 0
}

func notGiven(own, long, odd bool) uint32 {
	switch {
	case !own:
		return who
	case long:
		return 4294967294
	case odd:
		return 4294967291
	}
	return 0
}

// take: a message goes from a port to the cell's memory.
func (p *plain) take(number uint32, r *api.Regs) (uint64, api.Fault, uint32) {
	port, at := r.R[1], r.R[2]
	own, there := false, false
	var message api.Message
	if number == read && port < uint32(len(p.samples)) {
		own = slices.Contains(p.g.Samples[port].Readers, p.cell)
		there, message = p.samples[port].There, p.samples[port].Last
	}
	if number == receive && port < uint32(len(p.queues)) {
		own = p.g.Queues[port].Reader == p.cell
		if s := p.queues[port]; len(s.Queued) > 0 {
			there, message = true, s.Queued[0]
		}
	}
	code := notGiven(own, false, at%4 != 0)
	if code == 0 && !there {
		code = nothing
	}
	if code != 0 {
		r.R[1] = code
		return 10, api.FaultNone, 0
	}
	if number == receive {
		s := &p.queues[port]
		s.Queued = slices.Delete(slices.Clone(s.Queued), 0, 1)
		s.Stat.Queued--
		s.Stat.Received++
	}
	cycles := uint64(10)
	for i := uint32(0); i < uint32(len(message.Data)); i += 4 {
		b := message.Data[i:]
		c, fault := p.Store(at+i, 4, uint32(b[0])|uint32(b[1])<<8|uint32(b[2])<<16|uint32(b[3])<<24)
		cycles += uint64(c)
		if fault != api.FaultNone {
			return cycles, fault, at + i
		}
	}
	r.R[1], r.R[2], r.R[3] = uint32(len(message.Data)), uint32(message.Tick), uint32(message.Tick>>32)
	return cycles, api.FaultNone, 0
}

// turn is the end of the cell's window, as far as it can be seen.
func (p *plain) turn() {
	for i, d := range p.g.Samples {
		if s := &p.samples[i]; d.Writer == p.cell && s.Waits {
			*s = api.SampleState{There: true, Last: s.Next}
		}
	}
	for i, d := range p.g.Queues {
		s := &p.queues[i]
		if d.Writer != p.cell {
			continue
		}
		for _, message := range s.Staged {
			if s.Stat.Staged--; len(s.Queued) < d.Depth {
				s.Queued = append(s.Queued, message)
				s.Stat.Queued++
			} else {
				s.Stat.Lost++
			}
		}
		s.Staged = nil
	}
}
