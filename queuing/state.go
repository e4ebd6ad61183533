package queuing

import "cloister/api"

// Stat is what has become of its messages.
func (p *Port) Stat() api.QueueStat {
	return api.QueueStat{
		Accepted: p.accepted,
		Received: p.received,
		Queued:   len(p.queued),
		Staged:   len(p.staged),
		Lost:     p.lost,
	}
}

// State is all that it has.
func (p *Port) State() api.QueueState {
	return api.QueueState{Stat: p.Stat(), Queued: copiedAll(p.queued), Staged: copiedAll(p.staged)}
}

// Load has it have that.
func (p *Port) Load(s api.QueueState) api.Errno {
	if !p.fits(s) || !p.areMessages(s.Queued) || !p.areMessages(s.Staged) || !addUp(s) {
		return api.ErrQueuingArg
	}
	p.counts = counts{s.Stat.Accepted, s.Stat.Received, s.Stat.Lost}
	p.queued, p.staged = copiedAll(s.Queued), copiedAll(s.Staged)
	return api.OK
}

// fits tells whether this port can come to have so many messages, and to
// have lost so many.
func (p *Port) fits(s api.QueueState) bool {
	queued, staged := len(s.Queued), len(s.Staged)
	if p.declared.Flow {
		return queued+staged <= p.declared.Depth && s.Stat.Lost == 0
	}
	return queued <= p.declared.Depth && staged <= p.declared.Quota
}

func (p *Port) areMessages(l []api.Message) bool {
	for _, m := range l {
		if len(m.Data) > p.declared.Size || len(m.Data)%wordBytes != 0 {
			return false
		}
	}
	return true
}

// addUp tells whether a state's numbers agree with its messages and with one
// another. (Each is bounded first: the sum does not wrap round.)
func addUp(s api.QueueState) bool {
	n := s.Stat
	return n.Queued == len(s.Queued) && n.Staged == len(s.Staged) &&
		within(n.Received, 0, mostAccepted) && within(n.Lost, 0, mostAccepted) && n.Accepted <= mostAccepted &&
		n.Accepted == n.Received+n.Queued+n.Staged+n.Lost
}
