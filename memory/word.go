package memory

import "cloister/api"

// wordError is what is wrong with a word's size and address.
func (m *Memory) wordError(at uint32, size int) api.Errno {
	switch {
	case size != 1 && size != 2 && size != 4:
		return api.ErrMemoryArg
	case at%uint32(size) != 0:
		return api.ErrMemoryAlign
	case !m.inside(at, size):
		return api.ErrMemoryOutside
	}
	return api.OK
}

// Load reads a number of 1, 2 or 4 bytes.
func (m *Memory) Load(at uint32, size int) (uint32, api.Errno) {
	if e := m.wordError(at, size); e != api.OK {
		return 0, e
	}
	p := m.written[at/api.PageSize]
	if p == nil {
		return 0, api.OK
	}
	// An aligned word never goes from one page into the next.
	from, v := int(at%api.PageSize), uint32(0)
	for i := range size {
		v |= uint32(p[from+i]) << (8 * i)
	}
	return v, api.OK
}

// Store writes one.
func (m *Memory) Store(at uint32, size int, v uint32) api.Errno {
	if e := m.wordError(at, size); e != api.OK {
		return e
	}
	p, from := m.page(at/api.PageSize), int(at%api.PageSize)
	for i := range size {
		p[from+i] = byte(v >> (8 * i))
	}
	return api.OK
}
