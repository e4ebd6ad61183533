package memory

import (
	"iter"

	"cloister/api"
)

// piece is what of a page belongs to a place: from this byte on, up to that.
type piece struct{ from, to int }

// pieces goes over a place that is inside, page by page.
func pieces(at uint32, n int) iter.Seq2[uint32, piece] {
	return func(yield func(uint32, piece) bool) {
		for next, end := int(at), int(at)+n; next < end; {
			from := next % api.PageSize
			to := min(from+end-next, api.PageSize)
			if !yield(uint32(next/api.PageSize), piece{from, to}) {
				return
			}
			next += to - from
		}
	}
}

// placeError is what is wrong with a place.
func (m *Memory) placeError(at uint32, n int) api.Errno {
	switch {
	case n < 0:
		return api.ErrMemoryArg
	case !m.inside(at, n):
		return api.ErrMemoryOutside
	}
	return api.OK
}

// Read reads bytes.
func (m *Memory) Read(at uint32, n int) ([]byte, api.Errno) {
	if e := m.placeError(at, n); e != api.OK {
		return nil, e
	}
	data, done := make([]byte, n), 0
	for number, x := range pieces(at, n) {
		if p := m.written[number]; p != nil {
			copy(data[done:], p[x.from:x.to])
		}
		done += x.to - x.from
	}
	return data, api.OK
}

// Write writes texts, one behind the other.
func (m *Memory) Write(at uint32, parts ...[]byte) api.Errno {
	n := 0
	for _, part := range parts {
		n += len(part)
	}
	if !m.inside(at, n) {
		return api.ErrMemoryOutside
	}
	for _, part := range parts {
		m.lay(at, part)
		at += uint32(len(part))
	}
	return api.OK
}

// lay lays bytes over a place that is inside.
func (m *Memory) lay(at uint32, data []byte) {
	for number, x := range pieces(at, len(data)) {
		n := copy(m.page(number)[x.from:x.to], data)
		data = data[n:]
	}
}

// Fill writes a byte so many times.
func (m *Memory) Fill(at uint32, n int, b byte) api.Errno {
	if e := m.placeError(at, n); e != api.OK {
		return e
	}
	for number, x := range pieces(at, n) {
		p := m.page(number)
		for i := x.from; i < x.to; i++ {
			p[i] = b
		}
	}
	return api.OK
}

// Copy copies bytes, as if they had been read ahead.
func (m *Memory) Copy(to, from uint32, n int) api.Errno {
	data, e := m.Read(from, n)
	if e != api.OK {
		return e
	}
	return m.Write(to, data)
}
