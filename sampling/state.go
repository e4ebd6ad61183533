package sampling

import "cloister/api"

// State is all that it has.
func (p *Port) State() api.SampleState {
	last, next := p.last(), p.next()
	return api.SampleState{
		There: last.there,
		Waits: next.there,
		Last:  copied(last.message),
		Next:  copied(next.message),
	}
}

// Load has it have that.
func (p *Port) Load(s api.SampleState) api.Errno {
	if !p.mayHave(s.There, s.Last) || !p.mayHave(s.Waits, s.Next) {
		return api.ErrSamplingArg
	}
	*p.last() = slot{s.There, copied(s.Last)}
	*p.next() = slot{s.Waits, copied(s.Next)}
	return api.OK
}

// mayHave tells whether that can be a message of this port; of one that is not
// there: whether nothing is said of it.
func (p *Port) mayHave(there bool, m api.Message) bool {
	if !there {
		return len(m.Data) == 0 && m.Tick == 0
	}
	return len(m.Data) <= p.size && len(m.Data)%wordBytes == 0
}
